import time
import unittest
from itertools import product

from keenlot.days import even_steps, through, through_any
from keenlot.errors import CannotDo, InvalidDays, InvalidLot, InvalidNumber, TooLarge
from keenlot.lots import is_lot
from keenlot.sharpening import sharpen
from keenlot.work import work
from tests.cases import Case
from tests.kinds import KINDS
from tests.walks import (
    able, after, after_days, days_up_to, descending, does_cover, heaps_up_to, lots_with_steel, orders_of, rows_up_to,
)

FEW_ROWS = [[], [1], [3], [2, 2], [1, 2]]
SMALL = [(lot, days) for lot in lots_with_steel(4) for days in days_up_to(2, rows_up_to(2, 3))]
SMALL = SMALL + [(lot, days) for lot in [(2,), (2, 1), (3, 2)] for days in days_up_to(3, FEW_ROWS)]
OPTIONS = [(0, None), (1, None), (2, None), (1, 2), (2, 3), (1, 4)]
WRONG_DAYS = KINDS["days"][1]


def fits(lot, cap):
    return cap is None or max((0, *lot)) <= cap


def as_told(lot, days, steps, cap):
    """The results of work and sharpen, day by day."""
    ends = [work(lot, days[0])[1]]
    for row in days[1:]:
        ends.append(work(sharpen(ends[-1], steps, cap=cap), row)[1])
    return ends


def performs(lot, days, steps):
    """Whether the dullest tools perform all days, without a cap and without the limits of a lot."""
    for day, row in enumerate(days):
        if day > 0 and steps > 0:
            lot = descending([lot[0] + steps, *lot[1:]]) if lot else (steps,)
        for need in row:
            if not able(lot, need):
                return False
            lot = after(lot, able(lot, need)[0])
    return True


def least_even_steps(lot, days):
    """The number that even_steps finds, by trying them all."""
    for steps in range(201):
        if performs(lot, days, steps):
            return steps
    return None


class ThroughTest(Case):
    def test_examples(self):
        self.assertEqual(through((2,), [[2], [2, 1]], 1), [(1,), ()])
        self.assertEqual(self.cannot(through, (2,), [[2], [1, 2]], 1), (1, (1,), 1))

    def test_some_days(self):
        for lot, days, steps, cap, ends in [
            ((3, 1), [[1, 3]], 5, None, [(2,)]), ((3, 1), [[]], 5, None, [(3, 1)]), ((), [[]], 7, 3, [()]),
            ((), [[], []], 0, None, [(), ()]), ((), [[], []], 3, None, [(), (3,)]),
            ((), [[], [], []], 3, None, [(), (3,), (6,)]), ((), [[], [], []], 3, 4, [(), (3,), (4, 2)]),
            ((), [[], [1], [1]], 2, 1, [(), (1,), (1, 1)]), ((2,), [[2], [2, 1]], 1, 2, [(1,), ()]),
            ((5, 2), [[2, 5], [3], [6]], 2, None, [(4, 1), (5, 1), (6, 1)]),
            ((5, 2), [[2, 5], [3], []], 2, 5, [(4, 1), (4, 2), (5, 3)]),
            ((5, 2), [[2], [1], [1]], 0, 5, [(5, 1), (5,), (4,)]),
            ((3, 3), [[3, 3], [], [4]], 2, 4, [(2, 2), (4, 2), (4, 3)]),
            ((1,), [[1], [1], [1]], 1, None, [(), (), ()]), ((1,), [[1], [1], [1]], 1, 1, [(), (), ()]),
        ]:
            with self.subTest(lot=lot, days=days, steps=steps, cap=cap):
                self.assertEqual(through(lot, days, steps, cap=cap), ends)
                self.assertEqual(through(cap=cap, steps=steps, days=days, lot=lot), ends)

    def test_one_day_is_work(self):
        for lot in lots_with_steel(5):
            for row in rows_up_to(3, 3):
                for steps, cap in [(0, None), (200, None), (200, 5), (0, 200)]:
                    if performs(lot, [row], 0):
                        self.assertEqual(through(lot, [row], steps, cap=cap), [work(lot, row)[1]])
                    else:
                        index, left, _ = self.cannot(work, lot, row)
                        self.assertEqual(self.cannot(through, lot, [row], steps, cap=cap), (index, left, 0))

    def test_20_days(self):
        grown = [()] + [(10 * day,) for day in range(1, 20)]
        self.assertEqual(through((), [[]] * 20, 10), grown)
        self.assertEqual(through((200,), [[1] * 10] * 20, 0), grown[::-1])
        self.assertEqual(through((1,), [[1]] * 20, 1), [()] * 20)
        self.assertEqual(through((200,), [[1]] * 20, 1, cap=200), [(199,)] * 20)
        self.assertEqual(through((200,), [[1] * 200] * 20, 200, cap=200), [()] * 20)
        self.assertEqual(self.cannot(through, (1,), [[1]] * 19 + [[1, 1]], 1), (1, (), 19))
        self.raised(InvalidDays, through, (), [[]] * 21, 10)

    def test_against_all_choices_of_tools_and_steps(self):
        for lot, days in SMALL:
            for steps, cap in OPTIONS:
                if fits(lot, cap):
                    self.check_against_all_workers(lot, days, steps, cap)

    def check_against_all_workers(self, lot, days, steps, cap):
        told = (lot, days, steps, cap)
        try:
            ends = through(lot, days, steps, cap=cap)
        except CannotDo as error:
            # no worker performs the days before this one and this one up to the task
            until = [*days[:error.day], days[error.day][:error.index + 1]]
            self.assertEqual(after_days(lot, until, steps, cap)[-1], set(), told)
            before = [*days[:error.day], days[error.day][:error.index]]
            self.assertEqual(error.lot, as_told(lot, before, steps, cap)[-1], told)
        else:
            self.assertEqual(ends, as_told(lot, days, steps, cap), told)
            for end, others in zip(ends, after_days(lot, days, steps, cap)):
                self.assertIn(end, others, told)
                self.assertTrue(all(does_cover(end, other) for other in others), told)

    def test_the_field_of_the_day(self):
        for lot, days, steps, cap, fields in [
            ((), [[1]], 200, None, (0, (), 0)), ((2,), [[1, 1, 1], [1]], 1, None, (2, (), 0)),
            ((2,), [[1], [], [2], [4]], 1, None, (0, (3,), 3)), ((2,), [[1], [], [2], [3]], 1, 2, (0, (2, 1), 3)),
            ((3, 3), [[], [], [3, 3, 3]], 0, None, (2, (2, 2), 2)), ((3, 3), [[3, 4], [1]], 9, None, (1, (3, 2), 0)),
        ]:
            with self.subTest(lot=lot, days=days, steps=steps, cap=cap):
                self.assertEqual(self.cannot(through, lot, days, steps, cap=cap), fields)

    def test_a_tool_above_the_cap(self):
        for lot, days, steps, cap in [
            ((5, 2), [[1], [1]], 1, 4), ((5, 2), [[1]], 1, 4), ((5, 2), [[1]], 0, 4), ((5, 2), [[]], 0, 1),
            ((5,), [[5, 4], []], 1, 4), ((200,), [[1]], 200, 199),
            # ahead of CannotDo and of TooLarge
            ((5, 2), [[6]], 0, 4), ((5, 2), [[6], [6]], 1, 1), ((150, 2), [[], []], 200, 149), ((200,), [[]], 1, 199),
        ]:
            with self.subTest(lot=lot, days=days, steps=steps, cap=cap):
                self.assertEqual(self.too_sharp(through, lot, days, steps, cap=cap), lot[0])
                self.assertEqual(self.too_sharp(through_any, lot, days, steps, cap=cap), lot[0])
        self.assertEqual(through((5, 2), [[1], [1]], 1, cap=5), [(5, 1), (5, 1)])
        self.assertEqual(through((5, 2), [[]], 0, cap=5), [(5, 2)])

    def test_the_limits_in_the_evening(self):
        # exactly at the limit, and one beyond it
        self.assertEqual(through((150,), [[1], [1]], 51), [(149,), (199,)])
        self.raised(TooLarge, through, (150,), [[1], [1]], 52)
        self.assertEqual(through((150,), [[1], [1], [1]], 26), [(149,), (174,), (199,)])
        self.raised(TooLarge, through, (150,), [[1], [1], [1]], 27)
        self.assertEqual(through((150,), [[1], [1]], 51, cap=150), [(149,), (150, 49)])
        self.raised(TooLarge, through, (150,), [[1], [1]], 52, cap=150)
        self.assertEqual(through((1,) * 58, [[], []], 2, cap=1), [(1,) * 58, (1,) * 60])
        self.raised(TooLarge, through, (1,) * 58, [[], []], 3, cap=1)
        self.assertEqual(through((1,) * 58, [[], [], []], 1, cap=1)[2], (1,) * 60)
        self.raised(TooLarge, through, (1,) * 59, [[], [], []], 1, cap=1)

    def test_no_sharpening_behind_the_last_day(self):
        self.assertEqual(through((200,), [[]], 200), [(200,)])
        self.assertEqual(through((200,), [[]], 200, cap=200), [(200,)])
        self.assertEqual(through((199,), [[], []], 1), [(199,), (200,)])
        self.assertEqual(through((1,) * 60, [[]], 1, cap=1), [(1,) * 60])
        self.assertTrue(through_any((200,), [[200]], 200))

    def test_what_comes_first_decides(self):
        # the task of day 1 stands before the second evening, at which the steel would be 220
        self.assertEqual(self.cannot(through, (100,), [[], [200], []], 60), (0, (160,), 1))
        self.raised(TooLarge, through, (100,), [[], [], [200]], 60)
        self.raised(TooLarge, through, (100,), [[], [160], [200]], 60)
        self.assertEqual(self.cannot(through, (100,), [[101], []], 200), (0, (100,), 0))
        self.raised(TooLarge, through, (100,), [[100], [200, 200]], 200)
        self.assertEqual(self.cannot(through, (1,) * 60, [[2], []], 1, cap=1), (0, (1,) * 60, 0))
        self.raised(TooLarge, through, (1,) * 60, [[], [2]], 1, cap=1)

    def test_invalid_days(self):
        for days in WRONG_DAYS:
            with self.subTest(days=days):
                self.raised(InvalidDays, through, (2,), days, 1)
                self.raised(InvalidDays, through_any, (2,), days, 1)
                self.raised(InvalidDays, even_steps, (2,), days)
                # ahead of an invalid number, TooSharp and TooLarge, but not of an invalid lot
                self.raised(InvalidDays, through, (2,), days, None)
                self.raised(InvalidDays, through, (2,), days, 1, cap=1)
                self.raised(InvalidDays, through_any, (200,), days, 201, cap=0)
                self.raised(InvalidLot, through, (0,), days, 1)
                self.raised(InvalidLot, even_steps, [2], days)

    def test_wrong_numbers(self):
        for function in (through, through_any):
            for number in [None, True, False, -1, 201, "1", (1,), [1], 10 ** 99]:
                with self.subTest(function.__name__, number=number):
                    self.raised(InvalidNumber, function, (5,), [[6]], number)
                    self.raised(InvalidNumber, function, (5,), [[6]], number, cap=4)
                    if number is not None:
                        self.raised(InvalidNumber, function, (5,), [[6]], 0, cap=number)
            self.raised(InvalidNumber, function, (5,), [[5]], 0, cap=0)
            with self.assertRaises(TypeError):
                function((5,), [[5]], 0, 5)

    def test_arguments_and_results(self):
        days = [[1, 3, 1], [], [2, 1]]
        ends = through((4, 3), days, 2)
        kept = list(ends)
        through_any((4, 3), days, 2)
        even_steps((4, 3), days)
        self.assertEqual(days, [[1, 3, 1], [], [2, 1]])
        ends.clear()
        self.assertEqual(through((4, 3), days, 2), kept)
        self.assertTrue(all(is_lot(end) for end in kept))


class ThroughAnyTest(Case):
    def test_examples(self):
        self.assertEqual(through_any((2,), [[2], [2, 1]], 1), False)
        self.assertEqual(through_any((2,), [[2], [2, 1]], 2), True)

    def test_some_days(self):
        for lot, days, steps, cap, result in [
            ((), [[]], 0, None, True), ((), [[1]], 200, None, False), ((2,), [[2, 1]], 200, None, False),
            ((2,), [[1, 1]], 0, None, True), ((3,), [[2, 1]], 0, None, True), ((2,), [[], [2, 1]], 1, None, True),
            ((2,), [[], [2, 1]], 1, 2, True), ((2,), [[], [2, 2]], 1, 2, False),
            ((2, 2), [[1, 2], [2, 1]], 0, 2, False), ((2, 2), [[1, 2], [2, 1]], 1, 2, True),
            ((2, 2), [[1, 2], [2, 1]], 0, None, False), ((2, 2), [[1, 2], [2, 1]], 1, None, True),
            ((1,), [[1]] * 20, 1, 1, True), ((1,), [[1]] * 19 + [[1, 1]], 1, 1, False),
        ]:
            with self.subTest(lot=lot, days=days, steps=steps, cap=cap):
                self.assertIs(through_any(lot, days, steps, cap=cap), result)
                self.assertIs(through_any(cap=cap, steps=steps, days=[day[::-1] for day in days], lot=lot), result)

    def test_against_all_combinations_of_orders(self):
        heaps = heaps_up_to(3, 3)
        samples = [[one, other] for one in heaps for other in heaps[::2]]
        samples = samples + [[one] for one in heaps] + [[[1, 2], one, [1, 1, 2]] for one in heaps]
        for lot in [(), (2,), (2, 1), (2, 2), (3, 1), (3, 2), (4, 1), (2, 2, 1)]:
            for days in samples:
                for steps, cap in OPTIONS[:5]:
                    if fits(lot, cap):
                        orders = product(*[orders_of(day) for day in days])
                        expected = all(after_days(lot, list(order), steps, cap)[-1] for order in orders)
                        self.assertIs(through_any(lot, days, steps, cap=cap), expected, (lot, days, steps, cap))
                        self.assertIs(through_any(lot, [day[::-1] for day in days], steps, cap=cap), expected)

    def test_false_ahead_of_a_later_limit(self):
        self.assertIs(through_any((100,), [[], [200], []], 60), False)
        self.assertIs(through_any((100,), [[101], []], 200), False)
        self.assertIs(through_any((1,) * 60, [[2], []], 1, cap=1), False)
        # 2 and 1 can be performed as through does, but not in ascending order
        self.raised(TooLarge, through, (2,), [[2, 1], [], []], 200)
        self.assertIs(through_any((2,), [[2, 1], [], []], 200), False)

    def test_a_limit_ahead_of_a_later_task(self):
        self.raised(TooLarge, through_any, (100,), [[], [], [200]], 60)
        self.raised(TooLarge, through_any, (100,), [[], [160], [200]], 60)
        self.raised(TooLarge, through_any, (150,), [[1], [1]], 52)
        self.assertIs(through_any((150,), [[1], [1]], 51), True)
        self.raised(TooLarge, through_any, (200,), [[], []], 1, cap=200)
        self.raised(TooLarge, through_any, (1,) * 60, [[], []], 1, cap=1)


class EvenStepsTest(Case):
    def test_examples(self):
        self.assertEqual(even_steps((2,), [[2], [2, 1]]), 1)

    def test_some_days(self):
        for lot, days, result in [
            ((), [[]], 0), ((), [[]] * 20, 0), ((3,), [[3], [2], [1]], 0), ((3,), [[3], [3], [3]], 1),
            ((2,), [[2], [1, 2]], 2), ((2,), [[2], [2, 1]], 1), ((), [[], [1]], 1), ((), [[], [200]], 200),
            ((), [[], [], [200]], 100), ((), [[], [], [], [200]], 67), ((5, 2), [[2, 5], [3], [6]], 2),
            ((1,), [[1]] * 20, 1), ((1,), [[1]] + [[1] * 200] * 19, 200), ((), [[]] * 19 + [[200]], 11),
        ]:
            with self.subTest(lot=lot, days=days):
                self.assertEqual(even_steps(lot, days), result)
                self.assertEqual(even_steps(days=days, lot=lot), result)

    def test_none_because_of_the_first_day(self):
        for lot, days in [((), [[1]]), ((2,), [[3]]), ((2,), [[1, 2], []]), ((5, 5), [[6], [1]]), ((), [[200], [1]])]:
            self.assertIsNone(even_steps(lot, days))

    def test_none_because_no_number_is_enough(self):
        for lot, days in [
            ((), [[], [200, 200]]), ((1,), [[1], [1] * 199 + [200]]), ((50,), [[50], [200] * 51]),
            ((), [[], [100, 200]]), ((1,) * 3, [[1]] + [[100, 100, 100] + [100] * 101] * 2),
        ]:
            with self.subTest(lot=lot, days=days):
                self.assertIsNone(even_steps(lot, days))
                self.assertFalse(performs(lot, days, 200))
        self.assertEqual(even_steps((50,), [[50], [200] * 50]), 200)

    def test_the_order_within_a_day_counts(self):
        self.assertEqual([even_steps((3,), [[3, 2]]), even_steps((3,), [[2, 3]])], [0, None])
        self.assertEqual([even_steps((2,), [[], [2, 1]]), even_steps((2,), [[], [1, 2]])], [0, 1])

    def test_against_trying_the_numbers(self):
        lots = lots_with_steel(4)
        for lot, days in [(lot, days) for lot in lots for days in days_up_to(3, FEW_ROWS)]:
            found = even_steps(lot, days)
            self.assertEqual(found, least_even_steps(lot, days), (lot, days))

    def test_more_steps_are_never_worse(self):
        for lot in [(), (2,), (2, 2), (3, 1)]:
            for days in days_up_to(3, [[], [2], [1, 3], [2, 1, 1]]):
                told = [performs(lot, days, steps) for steps in range(12)]
                self.assertEqual(told, sorted(told))

    def test_as_through(self):
        for lot in lots_with_steel(3):
            for days in days_up_to(2, rows_up_to(2, 3)):
                steps = even_steps(lot, days)
                if steps is not None:
                    through(lot, days, steps)
                    if steps > 0:
                        self.raised(CannotDo, through, lot, days, steps - 1)

    def test_beyond_the_limits(self):
        for lot, days, steps in [
            ((100,), [[], [], [200] * 102], 101), ((199, 1), [[], [200] * 101], 101), ((200,), [[]] * 19 + [[200]], 0),
            ((200,), [[]] * 19 + [[200] * 200], 11), ((), [[], [], [200] * 200], 200),
            ((), [[]] * 19 + [[200] * 200], 21),
            ((1,) * 60, [[], [200] * 2], 200), ((200,), [[]] * 18 + [[200] * 200] * 2, 21),
        ]:
            with self.subTest(lot=lot, days=days[-1][:2]):
                self.assertEqual(least_even_steps(lot, days), steps)
                self.assertEqual(even_steps(lot, days), steps)
        self.raised(TooLarge, through, (100,), [[], [], [200] * 102], 101)

    def test_fast(self):
        started = time.perf_counter()
        wide = (15, 14, 13, 12, 11, 10, 9, 8, 7, 6, 5, 4, 3) + (2,) * 36 + (1,) * 11
        for lot in [(), (200,), wide]:
            for row in [[200] * 200, [1] * 200, list(range(1, 201)), list(range(200, 0, -1))]:
                even_steps(lot, [[]] + [row] * 19)
        self.assertLess(time.perf_counter() - started, 20)


if __name__ == "__main__":
    unittest.main()
