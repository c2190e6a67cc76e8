"""Point [14] of the document, against all walks of small lots and rows."""

import unittest

from keenlot.errors import CannotDo
from keenlot.work import serve, work
from tests.walks import all_walks, does_cover, done, full_walks, keen_walks, lots_with_steel, rows_up_to

SMALL = [(lot, row) for lot in lots_with_steel(6) for row in rows_up_to(4, 3)]
SMALL = SMALL + [(lot, row) for lot in [(5, 3), (5, 2, 1), (4, 4), (6, 1)] for row in rows_up_to(4, 5)]
LONG = [(lot, row) for lot in [(3, 2, 1), (2, 2, 2), (4, 2), (3, 3)] for row in rows_up_to(5, 4) if len(row) == 5]


def final_lot(lot, row, by):
    """The final lot of work, or None if it cannot perform the row."""
    try:
        return work(lot, row, by=by)[1]
    except CannotDo:
        return None


class MainResultTest(unittest.TestCase):
    def test_a_the_dullest_tool_performs_the_most(self):
        for lot, row in SMALL + LONG:
            most = max(done(picks) for picks, _ in all_walks(lot, row))
            self.assertEqual(done(serve(lot, row)[0]), most, (lot, row))

    def test_a_holds_at_every_moment(self):
        # serve does not know the rest of the row, so its picks for a row begin with those for the row's beginning
        for lot, row in SMALL + LONG:
            picks = serve(lot, row)[0]
            for length in range(len(row)):
                self.assertEqual(serve(lot, row[:length])[0], picks[:length], (lot, row))

    def test_b_the_sharpest_tool_performs_the_fewest(self):
        for lot, row in SMALL + LONG:
            fewest = min(done(picks) for picks, _ in keen_walks(lot, row))
            self.assertEqual(done(serve(lot, row, by="sharpest")[0]), fewest, (lot, row))

    def test_b_it_performs_at_least_half_as_many(self):
        for lot, row in SMALL + LONG:
            most = max(done(picks) for picks, _ in all_walks(lot, row))
            self.assertGreaterEqual(2 * done(serve(lot, row, by="sharpest")[0]), most, (lot, row))

    def test_c_work_performs_what_can_be_performed(self):
        for lot, row in SMALL + LONG:
            finals = {final for _, final in full_walks(lot, row)}
            kept = final_lot(lot, row, "dullest")
            self.assertEqual(kept is not None, bool(finals), (lot, row))
            for final in finals:
                self.assertTrue(does_cover(kept, final), (lot, row, final))

    def test_d_every_keen_walk_does_at_least_as_well_as_the_sharpest_tool(self):
        for lot, row in SMALL + LONG:
            kept = final_lot(lot, row, "sharpest")
            if kept is not None:
                for picks, final in keen_walks(lot, row):
                    self.assertEqual(done(picks), len(row), (lot, row))
                    self.assertTrue(does_cover(final, kept), (lot, row, final))


if __name__ == "__main__":
    unittest.main()
