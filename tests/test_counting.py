import time
import unittest

from keenlot.counting import count_covered, covered_lots
from keenlot.errors import InvalidLot, TooLarge
from keenlot.lots import is_lot
from tests.cases import Case
from tests.kinds import KINDS
from tests.walks import does_cover, lots_of, lots_with_steel


def lots_up_to(most):
    """How many lots have at most this steel: for each further sharpness the lots that end with such a tool."""
    many = [1] + [0] * most
    for tool in range(1, most + 1):
        for total in range(tool, most + 1):
            many[total] = many[total] + many[total - tool]
    return sum(many)


def has_lower_sums(lot, other):
    """Whether each top sum of other is at most that of lot."""
    return all(sum(other[:many]) <= sum(lot[:many]) for many in range(1, len(other) + 1))


class CoveredLotsTest(Case):
    def test_examples(self):
        self.assertEqual([covered_lots((2,)), count_covered((2,))], [[(), (1,), (1, 1), (2,)], 4])

    def test_some_lots(self):
        for lot, covered in [
            ((), [()]), ((1,), [(), (1,)]), ((1, 1), [(), (1,), (1, 1)]),
            ((3,), [(), (1,), (1, 1), (1, 1, 1), (2,), (2, 1), (3,)]),
            ((2, 1), [(), (1,), (1, 1), (1, 1, 1), (2,), (2, 1)]),
            ((2, 2), [(), (1,), (1, 1), (1, 1, 1), (1, 1, 1, 1), (2,), (2, 1), (2, 1, 1), (2, 2)]),
            ((1,) * 12, [(1,) * many for many in range(13)]),
        ]:
            with self.subTest(lot=lot):
                self.assertEqual(covered_lots(lot), covered)
                self.assertEqual(covered_lots(lot=lot), covered)
                self.assertEqual(count_covered(lot), len(covered))
                self.assertEqual(count_covered(lot=lot), len(covered))

    def test_against_all_small_lots_by_capacities(self):
        lots = sorted(lots_with_steel(7))
        for lot in lots:
            expected = [other for other in lots if does_cover(lot, other)]
            self.assertEqual(covered_lots(lot), expected)
            self.assertEqual(count_covered(lot), len(expected))

    def test_larger_lots_by_capacities(self):
        lots = sorted(lots_with_steel(12))
        for lot in [(12,), (6, 6), (4, 4, 4), (7, 3, 1, 1), (2,) * 6, (5, 1, 1, 1, 1), (9, 2), (11,)]:
            with self.subTest(lot=lot):
                expected = [other for other in lots if does_cover(lot, other)]
                self.assertEqual(covered_lots(lot), expected)
                self.assertEqual(count_covered(lot), len(expected))

    def test_results(self):
        for lot in lots_of(12, 12):
            covered = covered_lots(lot)
            self.assertEqual(covered, sorted(covered))
            self.assertEqual(len(covered), len(set(covered)))
            self.assertTrue(all(is_lot(other) for other in covered))
            self.assertIn((), covered)
            self.assertIn(lot, covered)
            self.assertEqual(count_covered(lot), len(covered))
        covered.clear()
        self.assertEqual(covered_lots((2,)), [(), (1,), (1, 1), (2,)])

    def test_steel_of_12_and_13(self):
        for lot in [(12,), (1,) * 12, (6, 6), (5, 4, 3)]:
            self.assertIsInstance(covered_lots(lot), list)
        for lot in [(13,), (1,) * 13, (12, 1), (7, 6), (40,), (41,), (200,), (1,) * 60]:
            self.raised(TooLarge, covered_lots, lot)


class CountCoveredTest(Case):
    def test_one_tool_covers_all_lots_with_its_steel(self):
        self.assertEqual([lots_up_to(most) for most in (0, 1, 2, 3, 4, 5)], [1, 2, 4, 7, 12, 19])
        for tool in range(1, 41):
            self.assertEqual(count_covered((tool,)), lots_up_to(tool))
        self.assertEqual(count_covered((40,)), 215308)

    def test_tools_of_1_cover_tools_of_1(self):
        for many in range(41):
            self.assertEqual(count_covered((1,) * many), many + 1)

    def test_against_listing(self):
        lots = lots_with_steel(20)
        for lot in [(20,), (10, 10), (7, 7, 6), (5, 5, 5, 5), (14, 3, 1, 1), (19, 1), (2,) * 10, (6, 5, 4, 3, 2)]:
            with self.subTest(lot=lot):
                expected = len([other for other in lots if has_lower_sums(lot, other)])
                self.assertEqual(count_covered(lot), expected)

    def test_steel_of_40_and_41(self):
        for lot in [(40,), (1,) * 40, (39, 1), (20, 20), (8, 8, 8, 8, 8)]:
            self.assertGreater(count_covered(lot), 40)
        for lot in [(41,), (1,) * 41, (40, 1), (21, 20), (200,), (1,) * 60, (3,) * 60]:
            self.raised(TooLarge, count_covered, lot)

    def test_fast(self):
        started = time.perf_counter()
        for lot in [(40,), (20, 20), (10,) * 4, (5,) * 8, (2,) * 20, (16, 9, 6, 4, 2, 1, 1, 1), (39, 1)] * 5:
            count_covered(lot)
        self.assertLess(time.perf_counter() - started, 10)


class FormTest(Case):
    def test_no_lots(self):
        for function in (covered_lots, count_covered):
            for value in KINDS["lot"][1] + [(41, 0), (13, 14), [13], (200, 200), (True, 41)]:
                self.raised(InvalidLot, function, value)


if __name__ == "__main__":
    unittest.main()
