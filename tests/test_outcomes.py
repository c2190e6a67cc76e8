import time
import unittest
from functools import lru_cache

from keenlot.errors import InvalidLot, InvalidRow, TooLarge
from keenlot.lots import is_lot, steel
from keenlot.work import outcomes, ways
from tests.walks import able, after, full_walks, lots_with_steel, rows_up_to

WIDE = (36, 35, 34, 33, 32, 30)


@lru_cache(maxsize=None)
def finals_of(lot, row):
    if not row:
        return frozenset([lot])
    return frozenset().union(*[finals_of(after(lot, tool), row[1:]) for tool in able(lot, row[0])])


@lru_cache(maxsize=None)
def number_of_walks(lot, row):
    if not row:
        return 1
    return sum(number_of_walks(after(lot, tool), row[1:]) for tool in able(lot, row[0]))


class OutcomesTest(unittest.TestCase):
    def compare(self, lot, row):
        walks = full_walks(lot, row)
        self.assertEqual(outcomes(lot, row), sorted({final for _, final in walks}), (lot, row))
        self.assertEqual(ways(lot, row), len({tuple(picks) for picks, _ in walks}), (lot, row))

    def test_examples(self):
        self.assertEqual(outcomes((3, 1), [1]), [(2, 1), (3,)])
        self.assertEqual(ways((3, 2), [2, 2]), 2)

    def test_the_empty_row(self):
        for lot in [(), (1,), (5, 3, 3, 1), (200,), WIDE]:
            with self.subTest(lot=lot):
                self.assertEqual(outcomes(lot, []), [lot])
                self.assertEqual(ways(lot, []), 1)

    def test_rows_that_no_walk_performs(self):
        for lot, row in [((), [1]), ((3, 1), [4]), ((3, 1), [3, 3]), ((2, 1), [1] * 4), ((1,), [200]), ((2,), [1, 2])]:
            with self.subTest(lot=lot, row=row):
                self.assertEqual(outcomes(lot, row), [])
                self.assertEqual(ways(lot, row), 0)

    def test_some_rows(self):
        self.assertEqual(outcomes((2, 2), [1, 1]), [(1, 1), (2,)])
        self.assertEqual(ways((2, 2), [1, 1]), 2)
        self.assertEqual(ways((2, 1), [1, 1]), 2)
        self.assertEqual(outcomes((2, 1), [1, 1]), [(1,)])
        self.assertEqual(outcomes((3, 2, 1), [1]), [(2, 2, 1), (3, 1, 1), (3, 2)])
        self.assertEqual(outcomes((200,), [200]), [(199,)])
        self.assertEqual(outcomes(row=[1], lot=(3, 1)), [(2, 1), (3,)])
        self.assertEqual(ways(row=[2, 2], lot=(3, 2)), 2)

    def test_against_all_walks(self):
        for lot in lots_with_steel(6):
            for row in rows_up_to(4, 3):
                self.compare(lot, row)
        for lot in [(5, 4, 3), (5, 3, 1), (4, 4, 1, 1)]:
            for row in rows_up_to(3, 6):
                self.compare(lot, row)

    def test_ten_tasks_and_six_tools(self):
        for lot, row in [
            ((2,) * 6, [1] * 10), ((3, 3, 2, 2, 1, 1), [1] * 10), ((3, 3, 2, 2, 2, 1), [3, 1, 2, 1, 2, 1, 1, 1, 1, 1]),
            ((6, 3, 3, 2, 2, 2), [4, 2, 2, 4, 1, 3, 1, 1, 2, 1]), ((200,), [1] * 10), ((1,) * 6, [1] * 10),
            ((33,) * 6, [33] * 6), ((33,) * 6, [33] * 10), ((5, 4, 3, 3, 2, 1), [5, 4, 4, 3, 3, 3, 2, 2, 1, 1]),
        ]:
            self.compare(lot, row)

    def test_fast_at_the_bounds(self):
        started = time.perf_counter()
        for row in ([1] * 10, [9, 1, 20, 3, 4, 5, 6, 7, 8, 1], [30] * 10):
            found = outcomes(WIDE, row)
            self.assertEqual(found, sorted(finals_of(WIDE, tuple(row))))
            self.assertEqual(ways(WIDE, row), number_of_walks(WIDE, tuple(row)))
            for lot in found:
                self.assertTrue(is_lot(lot))
                self.assertEqual(steel(lot), 190)
        self.assertGreater(ways(WIDE, [1] * 10), 10 ** 6)
        self.assertLess(time.perf_counter() - started, 30)

    def test_beyond_the_bounds(self):
        for lot, row in [
            ((200,), [1] * 11), ((), [1] * 11), ((1,) * 7, []), ((1,) * 7, [1] * 10), ((2,) * 7, [1] * 11),
            ((1,) * 60, [200] * 200), ((5, 1, 1, 1, 1, 1, 1), [6]),
        ]:
            for function in (outcomes, ways):
                with self.subTest(function.__name__, lot=lot, row=row):
                    with self.assertRaises(TooLarge):
                        function(lot, row)

    def test_wrong_arguments_come_before_the_bounds(self):
        for function in (outcomes, ways):
            with self.subTest(function.__name__):
                with self.assertRaises(InvalidRow):
                    function((1,) * 7, [0])
                with self.assertRaises(InvalidRow):
                    function((1,), [1] * 201)
                with self.assertRaises(InvalidLot):
                    function((1,) * 61, [1] * 11)

    def test_results_belong_to_the_caller(self):
        row = [1]
        found = outcomes((3, 1), row)
        found.clear()
        self.assertEqual(outcomes((3, 1), row), [(2, 1), (3,)])
        self.assertEqual(row, [1])


if __name__ == "__main__":
    unittest.main()
