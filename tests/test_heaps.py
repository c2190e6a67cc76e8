import unittest

from keenlot.compare import covers
from keenlot.errors import CannotDo, Impossible, TooLarge
from keenlot.heaps import (
    best_left, blocks, can_every, can_some, count_good_orders, count_orders, fewest_done, most_done, worst_left,
)
from keenlot.lots import capacity
from keenlot.work import serve, work
from tests.cases import Case
from tests.walks import (
    can_perform, descending, done, enough, heaps_up_to, keen_walks, lots_with_steel, most_of_row, orders_of,
    overloaded,
)

SMALL = [(lot, heap) for lot in lots_with_steel(6) for heap in heaps_up_to(4, 4)]
SMALL = SMALL + [(lot, heap) for lot in [(5, 3), (5, 2, 1), (4, 4), (6, 1)] for heap in heaps_up_to(3, 7)]


def turned(heap):
    """The same heap in some other orders."""
    return [heap[::-1], heap[1:] + heap[:1], heap[::2] + heap[1::2]]


class CanTest(Case):
    def test_examples(self):
        self.assertEqual([can_some((2,), [1, 2]), can_every((2,), [1, 2])], [True, False])

    def test_some_heaps(self):
        for lot, heap, some, every in [
            ((3, 1), [3, 2, 1, 1], True, False), ((3, 2, 1), [3, 2, 1], True, True), ((4,), [1] * 4, True, True),
            ((4,), [1] * 5, False, False), ((5,), [3, 3, 3], True, True), ((5,), [3, 3, 3, 1], True, False),
            ((5,), [4, 3, 3], True, False), ((5,), [4, 4, 3], True, False), ((5,), [4, 4, 4], False, False),
            ((2, 2), [2, 2], True, True), ((2, 2), [2, 2, 1], True, False), ((2, 2), [2, 1, 1], True, True),
            ((200,), [200], True, True), ((200,), [199, 199], True, True), ((200,), [200, 200], False, False),
            ((200,), [200, 1], True, False), ((200,), [1] * 200, True, True), ((200,), [1] * 199 + [2], True, False),
            ((1,) * 60, [1] * 60, True, True), ((1,) * 60, [1] * 61, False, False),
            ((200,), list(range(1, 201)), True, False), ((199, 1), list(range(1, 200)) + [1], True, False),
        ]:
            with self.subTest(lot=lot, heap=heap):
                self.assertIs(can_some(lot, heap), some)
                self.assertIs(can_every(lot, heap), every)

    def test_against_every_order(self):
        for lot, heap in SMALL:
            self.assertIs(can_some(lot, heap), enough(lot, heap, "some"), (lot, heap))
            self.assertIs(can_every(lot, heap), enough(lot, heap, "every"), (lot, heap))

    def test_the_capacities_decide_for_some_order(self):
        for lot, heap in SMALL:
            fits = all(len([task for task in heap if task >= need]) <= capacity(lot, need) for need in heap)
            self.assertIs(can_some(lot, heap), fits, (lot, heap))

    def test_the_ascending_order_decides_for_every_order(self):
        for lot, heap in SMALL:
            self.assertIs(can_every(lot, heap), can_perform(lot, sorted(heap)), (lot, heap))

    def test_every_keen_walk_performs_the_descending_order(self):
        for lot, heap in SMALL:
            if can_some(lot, heap):
                for picks, _ in keen_walks(lot, sorted(heap, reverse=True)):
                    self.assertNotIn(0, picks, (lot, heap))

    def test_a_need_beyond_the_sharpest_tool(self):
        for lot in [(), (1,), (3, 1), (199,), (3,) * 60]:
            for heap in ([200], [1, 200], [200] * 200):
                self.assertIs(can_some(lot, heap), False)
                self.assertIs(can_every(lot, heap), False)

    def test_the_empty_heap(self):
        for lot in lots_with_steel(4) + [(200,), (3,) * 60]:
            self.assertIs(can_some(lot, []), True)
            self.assertIs(can_every(lot, []), True)

    def test_by_name(self):
        self.assertIs(can_some(heap=[1, 2], lot=(2,)), True)
        self.assertIs(can_every(heap=[1, 2], lot=(2,)), False)


class OrderOfTheListTest(Case):
    def test_it_does_not_matter(self):
        for lot, heap in SMALL:
            for other in turned(heap):
                for function in (can_some, can_every, most_done, fewest_done, count_good_orders):
                    self.assertEqual(function(lot, heap), function(lot, other), (function.__name__, lot, heap))
                self.assertEqual(count_orders(heap), count_orders(other), heap)

    def test_it_does_not_matter_to_results_and_errors(self):
        for lot, heap in SMALL:
            for function in (blocks, best_left, worst_left):
                results = []
                for given in [heap, *turned(heap)]:
                    try:
                        results.append(function(lot, given))
                    except Impossible as error:
                        results.append(error.need)
                self.assertEqual(results, [results[0]] * 4, (function.__name__, lot, heap))


class LeftTest(Case):
    def test_examples(self):
        self.assertEqual([best_left((3, 2), [2, 1]), worst_left((3, 2), [2, 1])], [(3,), (2, 1)])

    def test_some_heaps(self):
        self.assertEqual(best_left((5, 3, 3, 1), [5, 3, 1]), (4, 3, 2))
        self.assertEqual(worst_left((5, 3, 3, 1), [1, 3, 5]), (4, 3, 2))
        self.assertEqual(best_left((4, 4), [4, 2, 1, 1]), (4,))
        self.assertEqual(worst_left((4, 4), [4, 2, 1, 1]), (3, 1))
        self.assertEqual(best_left((200,), list(range(1, 201))), ())
        self.assertEqual(worst_left((200,), [1] * 200), ())
        for lot in [(), (3, 1), (200,)]:
            self.assertEqual(best_left(lot, []), lot)
            self.assertEqual(worst_left(lot, []), lot)
        self.assertEqual(best_left(heap=[2, 1], lot=(3, 2)), (3,))
        self.assertEqual(worst_left(heap=[2, 1], lot=(3, 2)), (2, 1))

    def test_the_need_of_the_error(self):
        for lot, heap, some, every in [
            ((2,), [1, 2], None, 1), ((2,), [3], 3, 3), ((2,), [1, 2, 3], 3, 3), ((2,), [1, 1, 1], 1, 1),
            ((2,), [2, 2, 1], 2, 2), ((), [4, 7, 5], 7, 7), ((5,), [4, 4, 4], 4, 4), ((5,), [4, 4, 3], None, 3),
            ((5,), [4, 3, 3, 3, 3, 3], 3, 3), ((4, 2), [4, 2, 2], None, 2), ((4, 2), [3, 2, 2, 2, 2], 2, 2),
            ((4, 2), [2, 2, 2, 2, 1], None, 1), ((5, 1), [4, 2, 2], None, 2), ((200,), [200, 200, 1], 200, 200),
            ((200,), [200, 1], None, 1), ((6, 3), [5, 5, 4, 1, 1], None, 4), ((6, 3), [6, 3, 3, 3, 3, 3, 1], 3, 3),
            ((3, 3), [3, 2, 1, 1, 1, 1, 1], 1, 1), ((2, 1), [9, 9, 8], 9, 9), ((9,), [9, 8, 8, 8], 8, 8),
        ]:
            with self.subTest(lot=lot, heap=heap):
                if some is not None:
                    self.assertEqual(self.impossible(best_left, lot, heap), some)
                self.assertEqual(self.impossible(worst_left, lot, heap), every)

    def test_against_every_order(self):
        for lot, heap in SMALL:
            finals = [work(lot, order)[1] for order in orders_of(heap) if can_perform(lot, order)]
            if finals:
                best = best_left(lot, heap)
                self.assertEqual(best, work(lot, sorted(heap, reverse=True))[1])
                for final in finals:
                    self.assertTrue(covers(best, final), (lot, heap))
            else:
                self.assertEqual(self.impossible(best_left, lot, heap), overloaded(lot, heap), (lot, heap))
            if enough(lot, heap, "every"):
                worst = worst_left(lot, heap)
                self.assertEqual(worst, work(lot, sorted(heap))[1])
                for final in finals:
                    self.assertTrue(covers(final, worst), (lot, heap))
            else:
                needs = [self.impossible(function, lot, heap) for function in (worst_left, blocks)]
                self.assertEqual(needs[0], needs[1], (lot, heap))


class DoneTest(Case):
    def test_examples(self):
        self.assertEqual([most_done((3, 1), [3, 2, 1, 1]), fewest_done((3, 1), [3, 2, 1, 1])], [4, 3])

    def test_some_heaps(self):
        for lot, heap, most, fewest in [
            ((), [], 0, 0), ((), [1, 2], 0, 0), ((3,), [], 0, 0), ((3,), [4], 0, 0), ((3,), [4, 1], 1, 1),
            ((2,), [1, 2], 2, 1), ((2,), [2, 2, 1], 2, 1), ((3,), [1, 2, 3], 3, 2), ((3,), [1, 1, 3], 3, 2),
            ((200,), list(range(1, 201)), 200, 100), ((200,), [200] * 200, 1, 1), ((200,), [1] * 200, 200, 200),
            ((5, 3, 3, 1), [5, 5, 4, 3, 3, 3, 2], 6, 4), ((1,) * 60, [1] * 200, 60, 60), ((3, 3), [3, 3, 3, 1], 3, 2),
        ]:
            with self.subTest(lot=lot, heap=heap):
                self.assertEqual(most_done(lot, heap), most)
                self.assertEqual(fewest_done(lot, heap), fewest)
                self.assertEqual(most_done(heap=heap, lot=lot), most)
                self.assertEqual(fewest_done(heap=heap, lot=lot), fewest)

    def test_against_every_order(self):
        for lot, heap in SMALL:
            orders = orders_of(heap)
            self.assertEqual(most_done(lot, heap), max(most_of_row(lot, tuple(row)) for row in orders), (lot, heap))
            self.assertEqual(fewest_done(lot, heap), min(done(serve(lot, row)[0]) for row in orders), (lot, heap))

    def test_the_bounds_of_the_document(self):
        for lot, heap in SMALL:
            bounds = [capacity(lot, need) + len([task for task in heap if task < need]) for need in heap]
            self.assertEqual(most_done(lot, heap), min([len(heap), *bounds]), (lot, heap))
            self.assertEqual(most_done(lot, heap), done(serve(lot, sorted(heap, reverse=True))[0]), (lot, heap))
            self.assertEqual(fewest_done(lot, heap), done(serve(lot, sorted(heap))[0]), (lot, heap))
            possible = [many for many in range(len(heap) + 1) if can_every(lot, sorted(heap)[:many])]
            self.assertEqual(fewest_done(lot, heap), max(possible), (lot, heap))


class CountTest(Case):
    def test_examples(self):
        self.assertEqual([count_orders([1, 2, 1]), count_good_orders((2,), [1, 2])], [3, 1])

    def test_orders(self):
        for heap, many in [
            ([], 1), ([7], 1), ([14, 1], 2), ([3, 3], 1), ([1, 2, 3], 6), ([2, 1, 2, 1], 6), ([1, 1, 1, 2, 2, 3], 60),
            ([1, 2, 3, 4, 5, 6, 7], 5040), ([1, 2, 3, 4, 5, 6, 6], 2520), ([4] * 7, 1), ([4] * 6 + [9], 7),
            ([1, 1, 2, 2, 3, 3, 4], 630), ([5, 5, 5, 1, 1, 1, 1], 35),
        ]:
            with self.subTest(heap=heap):
                self.assertEqual(count_orders(heap), many)
                self.assertEqual(count_orders(heap[::-1]), many)
                self.assertEqual(count_orders(heap=heap), many)
                # a lot that performs them all in any order
                self.assertEqual(count_good_orders((20,) * 7, heap), many)

    def test_good_orders(self):
        for lot, heap, many in [
            ((), [], 1), ((3,), [], 1), ((), [1], 0), ((2,), [3], 0), ((2,), [1, 1, 1], 0), ((2,), [2, 2], 0),
            ((3,), [1, 2, 3], 1), ((3,), [1, 1, 3], 1), ((3,), [1, 1, 2], 2), ((7,), [7, 6, 5, 4, 3, 2, 1], 1),
            ((7,), [1] * 7, 1), ((7,), [2, 1, 1, 1, 1, 1, 1], 6), ((2, 2), [2, 2, 1], 2), ((2, 2), [2, 2, 1, 1], 2),
            ((1,) * 60, [1] * 7, 1), ((200,), [199, 200], 1), ((4,) + (3,) * 59, [1, 2, 3, 4], 24),
        ]:
            with self.subTest(lot=lot, heap=heap):
                self.assertEqual(count_good_orders(lot, heap), many)
                self.assertEqual(count_good_orders(heap=heap, lot=lot), many)

    def test_against_every_order(self):
        for lot, heap in SMALL:
            orders = orders_of(heap)
            self.assertEqual(count_orders(heap), len(orders), heap)
            good = [order for order in orders if can_perform(lot, order)]
            self.assertEqual(count_good_orders(lot, heap), len(good), (lot, heap))

    def test_seven_tasks_against_every_order(self):
        for lot, heap in [
            ((7, 6, 5, 4, 3, 2, 1), [1, 2, 3, 4, 5, 6, 7]), ((9, 4, 2), [1, 2, 3, 4, 5, 6, 7]),
            ((8, 8, 3), [1, 3, 3, 5, 6, 6, 7]), ((5, 5), [1, 1, 2, 2, 2, 4, 4]), ((12,), [6, 6, 7, 7, 8, 9, 9]),
        ]:
            with self.subTest(lot=lot, heap=heap):
                self.assertEqual(count_good_orders(lot, heap), self.good_orders(lot, orders_of(heap)))

    def good_orders(self, lot, orders):
        many = 0
        for order in orders:
            try:
                work(lot, order)
                many = many + 1
            except CannotDo:
                pass
        return many

    def test_none_and_all_are_good(self):
        for lot, heap in SMALL:
            many = count_good_orders(lot, heap)
            self.assertEqual(many == count_orders(heap), can_every(lot, heap), (lot, heap))
            self.assertEqual(many > 0, can_some(lot, heap), (lot, heap))

    def test_more_than_seven_tasks(self):
        for heap in ([1] * 8, [1, 2, 3, 4, 5, 6, 7, 8], [200] * 200):
            self.raised(TooLarge, count_orders, heap)
            for lot in [(), (1,), (200,), (3,) * 60]:
                self.raised(TooLarge, count_good_orders, lot, heap)


class LimitsTest(Case):
    def test_large_lots_and_heaps(self):
        heap = [1 + at % 3 for at in range(120)]
        lot = descending([3, 4] * 20 + [3] * 20)
        self.assertIs(can_some(lot, heap), True)
        self.assertEqual(most_done(lot, heap), 120)
        self.assertEqual(best_left(lot, heap), work(lot, sorted(heap, reverse=True))[1])
        self.assertEqual(fewest_done(lot, heap), done(serve(lot, sorted(heap))[0]))
        self.assertEqual(most_done((100, 100), [100] * 200), 2)
        self.assertEqual(fewest_done((100, 100), [1] * 200), 200)


if __name__ == "__main__":
    unittest.main()
