import unittest

from keenlot.compare import covers, gap, greatest_covered, least_cover, parting_row
from keenlot.errors import InvalidList, InvalidLot
from keenlot.lots import capacity, combine, is_lot, steel, top_sum
from keenlot.work import serve, work
from tests.cases import Case
from tests.walks import can_perform, does_cover, done, lots_with_steel, rows_up_to

SMALL = lots_with_steel(8)
LARGE = [
    (200,), (199, 1), (199,), (100, 100), (100, 99, 1), (3,) * 60, (4,) * 50, (4,) * 20 + (3,) * 40, (1,) * 60,
    (1,) * 59, (2,) + (1,) * 58, (60,), (30, 30), (20,) * 10, (34,) + (33,) * 5, (150, 10, 9, 8, 7, 6, 5, 4, 1), (),
]
PAIRS = [(first, second) for first in SMALL for second in SMALL]
PAIRS = PAIRS + [(first, second) for first in LARGE for second in LARGE]


class CoversTest(Case):
    def test_examples(self):
        found = [covers((3,), (2, 2)), gap((3,), (2, 2)), parting_row((3,), (2, 2))]
        self.assertEqual(found, [False, 1, [1, 1, 1, 1]])

    def test_some_lots(self):
        self.assertIs(covers((4,), (2, 2)), True)
        self.assertIs(covers((2, 2), (4,)), False)
        self.assertEqual(gap((2, 2), (4,)), 2)
        self.assertEqual(parting_row((2, 2), (4,)), [2, 2, 2])
        self.assertIsNone(gap((4,), (2, 2)))
        self.assertIsNone(parting_row((4,), (2, 2)))
        self.assertEqual(gap((5, 1), (4, 3)), 1)
        self.assertEqual(gap((5, 2), (4, 3)), None)
        self.assertEqual(gap((5, 2), (4, 4)), 1)
        self.assertEqual(gap((5, 3), (4, 4)), None)
        self.assertEqual(gap((5, 1, 1, 1), (4, 4)), 2)
        self.assertEqual(parting_row((5, 1, 1, 1), (4, 4)), [2] * 5)
        self.assertEqual(gap((199, 1), (200,)), 2)
        self.assertEqual(gap((100, 100), (199,)), 3)
        self.assertEqual(gap((199,), (200,)), 1)
        self.assertEqual(parting_row((199,), (200,)), [1] * 200)
        self.assertEqual(parting_row((199, 1), (200,)), [2] * 199)
        self.assertEqual(gap((4, 4, 4), (5, 4, 3)), 5)
        self.assertEqual(parting_row((4, 4, 4), (5, 4, 3)), [5])

    def test_equal_lots(self):
        for lot in SMALL + LARGE:
            self.assertIs(covers(lot, lot), True)
            self.assertIsNone(gap(lot, lot))
            self.assertIsNone(parting_row(lot, lot))

    def test_the_empty_lot(self):
        for lot in SMALL + LARGE:
            self.assertIs(covers(lot, ()), True)
            self.assertIsNone(gap(lot, ()))
            self.assertIsNone(parting_row(lot, ()))
            if lot:
                self.assertIs(covers((), lot), False)
                self.assertEqual(gap((), lot), 1)
                self.assertEqual(parting_row((), lot), [1])

    def test_one_step_more(self):
        for lot in SMALL + [lot for lot in LARGE if steel(lot) < 200]:
            for at, tool in enumerate(lot):
                if at == 0 or lot[at - 1] > tool:
                    more = (*lot[:at], tool + 1, *lot[at + 1:])
                    self.assertIs(covers(more, lot), True)
                    self.assertIs(covers(lot, more), False)
                    self.assertEqual(gap(lot, more), 1)
                    self.assertEqual(parting_row(lot, more), [1] * (steel(lot) + 1))

    def test_capacities(self):
        for first, second in PAIRS:
            needs = range(1, max((0, *first, *second)) + 1)
            less = [need for need in needs if capacity(first, need) < capacity(second, need)]
            self.assertIs(covers(first, second), not less, (first, second))
            self.assertEqual(gap(first, second), less[0] if less else None, (first, second))

    def test_all_needs_up_to_200(self):
        for first in LARGE[:6]:
            for second in LARGE[:6]:
                at_least = all(capacity(first, need) >= capacity(second, need) for need in range(1, 201))
                self.assertIs(covers(first, second), at_least, (first, second))

    def test_top_sums(self):
        for first, second in PAIRS:
            counts = range(max(len(first), len(second)) + 1)
            at_least = all(top_sum(first, count) >= top_sum(second, count) for count in counts)
            self.assertIs(covers(first, second), at_least, (first, second))

    def test_performing_tasks_of_one_need(self):
        for first in lots_with_steel(6):
            for second in lots_with_steel(6):
                self.assertIs(covers(first, second), does_cover(first, second), (first, second))

    def test_it_can_perform_every_row_of_the_other(self):
        rows = rows_up_to(5, 5)
        lots = lots_with_steel(5)
        performed = {lot: {at for at, row in enumerate(rows) if can_perform(lot, row)} for lot in lots}
        for first in lots:
            for second in lots:
                self.assertIs(covers(first, second), performed[first] >= performed[second], (first, second))

    def test_serve_performs_at_least_as_many(self):
        rows = rows_up_to(4, 4)
        for first in lots_with_steel(5):
            for second in lots_with_steel(5):
                if covers(first, second):
                    for row in rows:
                        self.assertGreaterEqual(done(serve(first, row)[0]), done(serve(second, row)[0]))

    def test_adding_tools_to_both(self):
        lots = lots_with_steel(5)
        for first, second in [(first, second) for first in lots for second in lots if covers(first, second)]:
            for more in lots:
                self.assertTrue(covers(combine(first, more), combine(second, more)), (first, second, more))

    def test_lots_that_cover_each_other_are_equal(self):
        for first, second in PAIRS:
            self.assertEqual(covers(first, second) and covers(second, first), first == second)

    def test_parting_rows(self):
        for first, second in PAIRS:
            row = parting_row(first, second)
            need = gap(first, second)
            self.assertEqual(row is None, need is None)
            if need is not None:
                self.assertEqual(row, [need] * (capacity(first, need) + 1))
                self.assertEqual(work(second, row)[0].count(0), 0)
                self.assertEqual(self.cannot(work, first, row)[0], len(row) - 1)

    def test_by_name(self):
        self.assertIs(covers(second=(2, 2), first=(4,)), True)
        self.assertEqual(gap(second=(4,), first=(2, 2)), 2)
        self.assertEqual(parting_row(second=(4,), first=(2, 2)), [2, 2, 2])

    def test_wrong_lots(self):
        for function in (covers, gap, parting_row):
            for wrong in [None, True, 3, "", [], [3], (1, 2), (0,), (True,), (201,), (1,) * 61, (101, 100)]:
                self.raised(InvalidLot, function, wrong, (2,))
                self.raised(InvalidLot, function, (2,), wrong)

    def test_results_belong_to_the_caller(self):
        parting_row((3,), (2, 2)).clear()
        self.assertEqual(parting_row((3,), (2, 2)), [1, 1, 1, 1])


class BoundsTest(Case):
    def check(self, lots):
        """Compare the results with the capacities and the top sums."""
        least, greatest = least_cover(lots), greatest_covered(lots)
        self.assertTrue(is_lot(least) and is_lot(greatest), (least, greatest))
        for need in range(1, max(max((0, *lot)) for lot in lots) + 2):
            most = max(capacity(lot, need) if need <= 200 else 0 for lot in lots)
            self.assertEqual(capacity(least, need) if need <= 200 else 0, most, lots)
        for count in range(max(len(lot) for lot in lots) + 2):
            self.assertEqual(top_sum(greatest, count), min(top_sum(lot, count) for lot in lots), lots)

    def test_examples(self):
        lots = [(4,), (2, 2, 2)]
        self.assertEqual([least_cover(lots), greatest_covered(lots)], [(4, 1, 1), (2, 2)])

    def test_it_does_not_perform_every_row_that_all_can_perform(self):
        self.assertEqual(greatest_covered([(4,), (2, 2, 2)]), (2, 2))
        for lot in [(4,), (2, 2, 2)]:
            self.assertEqual(done(work(lot, [2, 2, 2])[0]), 3)
        self.assertEqual(self.cannot(work, (2, 2), [2, 2, 2]), (2, (1, 1), None))

    def test_one_lot(self):
        for lot in SMALL + LARGE:
            self.assertEqual(least_cover([lot]), lot)
            self.assertEqual(greatest_covered([lot]), lot)

    def test_equal_lots(self):
        for lot in lots_with_steel(5) + LARGE:
            for many in (2, 20):
                self.assertEqual(least_cover([lot] * many), lot)
                self.assertEqual(greatest_covered([lot] * many), lot)

    def test_empty_lots(self):
        self.assertEqual(least_cover([(), ()]), ())
        self.assertEqual(greatest_covered([(), ()]), ())
        for lot in SMALL + LARGE:
            self.assertEqual(least_cover([(), lot]), lot)
            self.assertEqual(greatest_covered([lot, ()]), ())

    def test_some_lots(self):
        self.assertEqual(least_cover([(3, 1), (2, 2)]), (3, 1))
        self.assertEqual(greatest_covered([(3, 1), (2, 2)]), (2, 2))
        self.assertEqual(least_cover([(5, 1, 1), (4, 4)]), (5, 3))
        self.assertEqual(greatest_covered([(5, 1, 1), (4, 4)]), (4, 2, 1))
        self.assertEqual(least_cover([(200,), (1,) * 60]), (200,))
        self.assertEqual(greatest_covered([(200,), (1,) * 60]), (1,) * 60)
        self.assertEqual(least_cover([(60,), (4,) * 50]), (60,) + (3,) * 42 + (2,) * 7)
        self.assertEqual(greatest_covered([(60,), (4,) * 50]), (4,) * 15)

    def test_against_all_small_lots(self):
        lots = lots_with_steel(5)
        around = lots_with_steel(7)
        above = {lot: {at for at, other in enumerate(around) if does_cover(other, lot)} for lot in around}
        below = {lot: {at for at, other in enumerate(around) if does_cover(lot, other)} for lot in around}
        for first in lots:
            for second in lots:
                for third in [first, (3, 1), (2, 2, 1)]:
                    given = [first, second, third]
                    both_above = above[first] & above[second] & above[third]
                    both_below = below[first] & below[second] & below[third]
                    self.assertEqual(above[least_cover(given)], both_above, given)
                    self.assertEqual(below[greatest_covered(given)], both_below, given)

    def test_capacities_and_top_sums(self):
        for first in LARGE:
            for second in LARGE:
                self.check([first, second])
        for at in range(len(SMALL) - 20):
            self.check(SMALL[at:at + 20])
        self.check(LARGE)

    def test_20_lots_in_any_order(self):
        lots = SMALL[-20:-3] + [(4,), (), (3, 3)]
        least, greatest = least_cover(lots), greatest_covered(lots)
        for at in range(20):
            turned = lots[at:] + lots[:at]
            for given in (turned, turned[::-1], turned[::2] + turned[1::2]):
                self.assertEqual(least_cover(given), least)
                self.assertEqual(greatest_covered(given), greatest)

    def test_the_result_is_always_a_lot(self):
        for first, second in PAIRS:
            for lot in (least_cover([first, second]), greatest_covered([first, second])):
                self.assertTrue(is_lot(lot), (first, second, lot))

    def test_wrong_lists(self):
        for function in (least_cover, greatest_covered):
            for wrong in [
                None, True, 0, 1, 10 ** 99, "", "(3, 1)", (), ((3, 1),), ((3, 1), (2,)), [], [(3, 1)] * 21, [()] * 21,
                [None], [True], [3], [""], [[]], [[3, 1]], [(3, 1), None], [(3, 1), [2]], [(3, 1), (1, 2)], [(0,)],
                [(3, 1), (2, True)], [(2, 0)], [(201,)], [(101, 100)], [(1,) * 61], [(2,), ((2,),)], [[(2,)]], [("2",)],
                [(-1,)], [(3, 1)] * 19 + [3],
            ]:
                with self.subTest(function.__name__, wrong=wrong):
                    self.raised(InvalidList, function, wrong)

    def test_arguments_and_results(self):
        lots = [(4,), (2, 2, 2)]
        self.assertEqual(least_cover(lots=lots), (4, 1, 1))
        self.assertEqual(greatest_covered(lots=lots), (2, 2))
        self.assertEqual(lots, [(4,), (2, 2, 2)])


if __name__ == "__main__":
    unittest.main()
