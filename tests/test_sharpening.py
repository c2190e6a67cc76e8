import time
import unittest
from itertools import combinations_with_replacement

from keenlot.compare import covers
from keenlot.errors import Impossible, InvalidNumber, InvalidOption, TooLarge
from keenlot.heaps import best_left, can_every, can_some, worst_left
from keenlot.lots import is_lot, make_lot, steel
from keenlot.sharpening import least_lot, sharpen, steps_needed, tools_needed
from tests.cases import Case
from tests.walks import all_sharpened, descending, enough, heaps_up_to, lots_with_steel, overloaded, sharpened_once

OTHER_ORDERS = [
    None, True, False, 0, 1, 10 ** 99, "", "Every", "all", "every ", "everysome", "none", (), [], ("every",), ["some"],
    ("every", "some"), [["every"]], ((None,),),
]
OTHER_CAPS = [True, False, 0, -1, 201, 10 ** 99, "", "3", (), (3,), [], [3]]


def one_step(lot, cap):
    """The lot after one step of the rule."""
    below = [tool for tool in lot if cap is None or tool < cap]
    if not below:
        return (*lot, 1)
    rest = list(lot)
    rest.remove(below[0])
    return descending([*rest, below[0] + 1])


class SharpenTest(Case):
    def test_examples(self):
        found = [sharpen((5, 2), 3), sharpen((5, 2), 3, cap=6), sharpen((2,), 3, cap=2)]
        self.assertEqual(found, [(8, 2), (6, 4), (2, 2, 1)])

    def test_without_a_cap(self):
        for lot, steps, result in [
            ((5, 2), 0, (5, 2)), ((5, 5), 1, (6, 5)), ((1,), 199, (200,)), ((3, 1, 1), 7, (10, 1, 1)), ((), 0, ()),
            ((), 1, (1,)), ((), 4, (4,)), ((), 200, (200,)), ((1,) * 60, 140, (141,) + (1,) * 59), ((200,), 0, (200,)),
        ]:
            with self.subTest(lot=lot, steps=steps):
                self.assertEqual(sharpen(lot, steps), result)
                self.assertEqual(sharpen(lot, steps, cap=None), result)

    def test_with_a_cap(self):
        for lot, steps, cap, result in [
            ((5, 2), 0, 5, (5, 2)), ((5, 2), 1, 5, (5, 3)), ((5, 2), 3, 5, (5, 5)), ((5, 2), 4, 5, (5, 5, 1)),
            ((5, 2), 14, 5, (5, 5, 5, 5, 1)), ((5, 4, 4, 1), 2, 5, (5, 5, 5, 1)), ((4, 4, 4), 4, 6, (6, 6, 4)),
            ((4, 4, 4), 5, 6, (6, 6, 5)), ((), 0, 3, ()), ((), 2, 3, (2,)), ((), 3, 3, (3,)), ((), 7, 3, (3, 3, 1)),
            ((1, 1), 3, 1, (1,) * 5), ((), 60, 1, (1,) * 60), ((3,), 197, 200, (200,)), ((200,), 0, 200, (200,)),
            ((), 200, 200, (200,)), ((), 200, 4, (4,) * 50), ((5, 3, 3, 1), 6, 5, (5, 5, 5, 3)), ((1,), 5, 200, (6,)),
        ]:
            with self.subTest(lot=lot, steps=steps, cap=cap):
                self.assertEqual(sharpen(lot, steps, cap=cap), result)
                self.assertEqual(sharpen(cap=cap, steps=steps, lot=lot), result)

    def test_step_by_step(self):
        for cap in (None, 1, 2, 3, 4, 5, 8, 200):
            for lot in lots_with_steel(6):
                if cap is None or max((0, *lot)) <= cap:
                    expected = lot
                    for steps in range(9):
                        self.assertEqual(sharpen(lot, steps, cap=cap), expected, (lot, steps, cap))
                        expected = one_step(expected, cap)

    def test_it_covers_every_lot_with_as_many_steps(self):
        for cap in (None, 1, 2, 3, 4, 6):
            for lot in lots_with_steel(5):
                if cap is None or max((0, *lot)) <= cap:
                    for steps in range(5):
                        result = sharpen(lot, steps, cap=cap)
                        obtained = all_sharpened(lot, steps, cap)
                        self.assertIn(result, obtained)
                        for other in obtained:
                            self.assertTrue(covers(result, other), (lot, steps, cap, other))

    def test_results_at_the_limits(self):
        self.assertEqual(sharpen((100, 50), 50), (150, 50))
        self.raised(TooLarge, sharpen, (100, 50), 51)
        self.assertEqual(sharpen((100, 50), 50, cap=120), (120, 80))
        self.raised(TooLarge, sharpen, (100, 50), 51, cap=120)
        self.raised(TooLarge, sharpen, (200,), 1)
        self.raised(TooLarge, sharpen, (200,), 1, cap=200)
        self.raised(TooLarge, sharpen, (1,), 200)
        self.raised(TooLarge, sharpen, (1,), 200, cap=10)
        self.assertEqual(sharpen((1,) * 58, 2, cap=1), (1,) * 60)
        self.raised(TooLarge, sharpen, (1,) * 58, 3, cap=1)
        self.raised(TooLarge, sharpen, (), 61, cap=1)
        self.assertEqual(sharpen((), 120, cap=2), (2,) * 60)
        self.raised(TooLarge, sharpen, (), 121, cap=2)
        self.assertEqual(sharpen((), 180, cap=3), (3,) * 60)
        self.raised(TooLarge, sharpen, (), 181, cap=3)
        self.raised(TooLarge, sharpen, (), 200, cap=1)
        self.assertEqual(sharpen((1,) * 60, 60, cap=2), (2,) * 60)
        self.raised(TooLarge, sharpen, (1,) * 60, 61, cap=2)

    def test_a_tool_above_the_cap(self):
        for lot, steps, cap in [
            ((5, 2), 3, 4), ((5, 2), 0, 4), ((5, 2), 0, 1), ((5, 5, 5), 1, 4), ((200,), 0, 199), ((2,), 0, 1),
            # ahead of TooLarge
            ((200,), 1, 199), ((200,), 200, 1), ((2,) + (1,) * 59, 1, 1), ((5,), 200, 3),
        ]:
            with self.subTest(lot=lot, steps=steps, cap=cap):
                self.assertEqual(self.too_sharp(sharpen, lot, steps, cap=cap), lot[0])
        self.assertEqual(sharpen((5, 2), 0, cap=5), (5, 2))

    def test_wrong_numbers(self):
        for cap in OTHER_CAPS:
            self.raised(InvalidNumber, sharpen, (5, 2), 3, cap=cap)
        with self.assertRaises(TypeError):
            sharpen((5, 2), 3, 6)


class StepsNeededTest(Case):
    def test_examples(self):
        self.assertEqual([steps_needed((2,), [1, 2]), steps_needed((2,), [1, 2], order="some")], [1, 0])

    def test_some_heaps(self):
        for lot, heap, cap, every, some in [
            ((), [], None, 0, 0), ((3,), [], 3, 0, 0), ((), [1], None, 1, 1), ((), [5], None, 5, 5),
            ((), [5, 5], None, 6, 6), ((), [5, 5], 5, 10, 10), ((), [5, 5], 6, 6, 6), ((3, 1), [4], None, 1, 1),
            ((3, 1), [3, 3], 3, 2, 2), ((3, 1), [3, 3], None, 1, 1), ((3,), [3, 1], None, 1, 0),
            ((3,), [3, 1], 3, 1, 0), ((3,), [3, 2], 3, 2, 0), ((), [3, 2, 1], None, 5, 3), ((), [3, 2, 1], 3, 6, 3),
            ((2, 2), [3, 3], 3, 2, 2), ((4, 4), [4, 4], 4, 0, 0),
        ]:
            with self.subTest(lot=lot, heap=heap, cap=cap):
                self.assertEqual(steps_needed(lot, heap, cap=cap), every)
                self.assertEqual(steps_needed(lot, heap, order="every", cap=cap), every)
                self.assertEqual(steps_needed(lot, heap, order="some", cap=cap), some)
                self.assertEqual(steps_needed(cap=cap, order="some", heap=heap[::-1], lot=lot), some)

    def test_against_all_sharpened_lots(self):
        for cap in (None, 1, 2, 3, 4):
            for lot in lots_with_steel(4):
                if cap is None or max((0, *lot)) <= cap:
                    for heap in heaps_up_to(3, 3):
                        if cap is None or max([0, *heap]) <= cap:
                            for order in ("every", "some"):
                                found = steps_needed(lot, heap, order=order, cap=cap)
                                expected = self.steps_by_trying(lot, heap, order, cap)
                                self.assertEqual(found, expected, (lot, heap, order, cap))

    def steps_by_trying(self, lot, heap, order, cap):
        lots, steps = {lot}, 0
        while not any(enough(one, heap, order) for one in lots):
            lots = {more for one in lots for more in sharpened_once(one) if cap is None or more[0] <= cap}
            steps = steps + 1
        return steps

    def test_as_sharpen(self):
        for cap in (None, 6, 9):
            for lot in [(), (1,), (5, 2), (6, 3, 3, 1)]:
                for heap in heaps_up_to(3, 6):
                    for order, can in [("every", can_every), ("some", can_some)]:
                        steps = steps_needed(lot, heap, order=order, cap=cap)
                        self.assertTrue(can(sharpen(lot, steps, cap=cap), heap))
                        if steps > 0:
                            self.assertFalse(can(sharpen(lot, steps - 1, cap=cap), heap))

    def test_beyond_the_limits(self):
        for lot, heap, cap, every, some in [
            ((), [200] * 200, 200, 40000, 40000), ((), [200] * 200, None, 399, 399), ((), [200, 200], 200, 400, 400),
            ((200,), [200] * 200, 200, 39800, 39800), ((200,), [200] * 200, None, 199, 199),
            ((), [199] * 3, 199, 597, 597), ((), [199] * 3, 200, 399, 399), ((), [1] * 200, 1, 200, 200),
            ((1,) * 60, [1] * 200, 1, 140, 140), ((), [1] * 200, None, 200, 200),
            ((100, 100), [101] * 200, None, 200, 200), ((), [2] * 200, None, 201, 201), ((), [2] * 200, 2, 400, 400),
            ((), list(range(1, 201)), None, 399, 200), ((), [200, 1], 200, 201, 200),
            ((), list(range(1, 201)), 200, 1545, 200), ((100,), [100] * 100 + [1] * 100, None, 199, 100),
        ]:
            with self.subTest(lot=lot, heap=heap[:3], cap=cap):
                self.assertEqual(steps_needed(lot, heap, cap=cap), every)
                self.assertEqual(steps_needed(lot, heap, order="some", cap=cap), some)

    def test_fast(self):
        started = time.perf_counter()
        for cap in (200, None):
            for order in ("every", "some"):
                for lot in [(), (199, 1), (1,) * 60, (3,) * 60]:
                    steps_needed(lot, [200] * 200, order=order, cap=cap)
                    steps_needed(lot, list(range(1, 201)), order=order, cap=cap)
        self.assertLess(time.perf_counter() - started, 20)

    def test_any_other_order(self):
        for order in OTHER_ORDERS:
            with self.subTest(order=order):
                self.raised(InvalidOption, steps_needed, (2,), [1, 2], order=order)
                # ahead of an invalid cap, and of all further conditions
                self.raised(InvalidOption, steps_needed, (2,), [1, 2], order=order, cap=0)
                self.raised(InvalidOption, steps_needed, (2,), [1, 2], cap="1", order=order)
                self.raised(InvalidOption, steps_needed, (2,), [1, 2], order=order, cap=1)

    def test_wrong_caps(self):
        for cap in OTHER_CAPS:
            self.raised(InvalidNumber, steps_needed, (2,), [1, 2], cap=cap)
            self.raised(InvalidNumber, steps_needed, (2,), [1, 2], order="some", cap=cap)

    def test_a_tool_above_the_cap(self):
        for order in ("every", "some"):
            for lot, heap, cap in [
                ((5, 2), [], 4), ((5, 2), [1], 4), ((5, 2), [4, 4, 4], 4), ((200,), [1], 199), ((2, 2), [1], 1),
                # ahead of Impossible
                ((5, 2), [5], 4), ((5, 2), [200], 1),
            ]:
                with self.subTest(lot=lot, heap=heap, cap=cap, order=order):
                    self.assertEqual(self.too_sharp(steps_needed, lot, heap, order=order, cap=cap), lot[0])

    def test_a_need_above_the_cap(self):
        for order in ("every", "some"):
            for lot, heap, cap in [
                ((), [2], 1), ((4,), [1, 5, 3], 4), ((4,), [5, 6, 7], 4), ((), [200, 1], 199), ((3,) * 60, [4], 3),
            ]:
                with self.subTest(lot=lot, heap=heap, cap=cap, order=order):
                    self.assertEqual(self.impossible(steps_needed, lot, heap, order=order, cap=cap), max(heap))
            self.assertEqual(steps_needed((4,), [4], order=order, cap=4), 0)


class ToolsNeededTest(Case):
    def test_examples(self):
        self.assertEqual(tools_needed((3,), [3, 2, 2, 1], 2), 3)

    def test_some_heaps(self):
        for lot, heap, cap, every, some in [
            ((), [], 1, 0, 0), ((9,), [], 1, 0, 0), ((), [1], 1, 1, 1), ((), [1] * 5, 3, 2, 2),
            ((), [3, 3, 3], 3, 3, 3), ((), [3, 2, 1], 3, 2, 1), ((), [3, 2, 1], 5, 1, 1),
            ((3,), [3, 2, 2, 1], 2, 3, 1), ((3,), [3, 2, 2], 2, 2, 1), ((5,), [5, 1], 1, 1, 0),
            ((5, 5), [5, 5, 4], 4, 1, 0), ((5, 5), [5, 5, 4, 4], 4, 2, 0), ((2,), [2, 2], 200, 1, 1),
        ]:
            with self.subTest(lot=lot, heap=heap, cap=cap):
                self.assertEqual(tools_needed(lot, heap, cap), every)
                self.assertEqual(tools_needed(lot, heap, cap, order="every"), every)
                self.assertEqual(tools_needed(lot, heap, cap, order="some"), some)
                self.assertEqual(tools_needed(order="some", cap=cap, heap=heap[::-1], lot=lot), some)

    def test_against_all_added_tools(self):
        for cap in (1, 2, 3, 4):
            for lot in lots_with_steel(4):
                for heap in heaps_up_to(3, 4):
                    for order in ("every", "some"):
                        expected = self.tools_by_trying(lot, heap, cap, order)
                        if expected is None:
                            self.raised(Impossible, tools_needed, lot, heap, cap, order=order)
                        else:
                            found = tools_needed(lot, heap, cap, order=order)
                            self.assertEqual(found, expected, (lot, heap, cap, order))

    def tools_by_trying(self, lot, heap, cap, order):
        for many in range(len(heap) + 2):
            for added in combinations_with_replacement(range(1, cap + 1), many):
                if enough(descending([*lot, *added]), heap, order):
                    return many
        return None

    def test_tools_that_are_sharper_than_the_cap(self):
        self.assertEqual(tools_needed((200,), [200, 1], 1), 1)
        self.assertEqual(tools_needed((200,), [200, 1], 1, order="some"), 0)
        self.assertEqual(tools_needed((9, 8), [9, 8, 2, 2], 2), 2)
        self.assertEqual(tools_needed((9, 8), [7, 7, 7, 7, 7], 2), 0)

    def test_the_need_of_the_error(self):
        for lot, heap, cap, every, some in [
            ((), [2], 1, 2, 2), ((3,), [4, 1], 2, 4, 4), ((3,), [3, 3, 1], 2, 3, 3), ((4,), [4, 3, 1], 2, 3, None),
            ((4,), [4, 3, 3, 3, 1], 2, 3, 3), ((5,), [5, 4, 3, 1], 2, 4, None),
            ((5, 5), [5, 5, 4, 4, 3, 1], 2, 4, None), ((5, 5), [5, 5, 5, 4, 1], 3, 5, 5),
            ((), [200] * 200, 199, 200, 200), ((200,), [200, 200], 199, 200, 200),
            ((200,), [200, 199, 1], 198, 199, None), ((1,), [9, 7, 8], 6, 9, 9), ((9, 9), [9, 9, 9, 8], 8, 9, 9),
        ]:
            with self.subTest(lot=lot, heap=heap, cap=cap):
                self.assertEqual(self.impossible(tools_needed, lot, heap, cap), every)
                if some is None:
                    tools_needed(lot, heap, cap, order="some")
                else:
                    self.assertEqual(self.impossible(tools_needed, lot, heap, cap, order="some"), some)

    def test_the_error_is_that_of_the_final_lots(self):
        for cap in (1, 2, 3):
            for lot in lots_with_steel(5):
                for heap in heaps_up_to(3, 5):
                    more = make_lot([*lot] + [cap] * len(heap))
                    for order, left in [("every", worst_left), ("some", best_left)]:
                        if enough(more, heap, order):
                            self.assertLessEqual(tools_needed(lot, heap, cap, order=order), len(heap))
                        else:
                            need = self.impossible(left, more, heap)
                            self.assertEqual(self.impossible(tools_needed, lot, heap, cap, order=order), need)
                            if order == "some":
                                self.assertEqual(need, overloaded(more, heap))

    def test_beyond_the_limits(self):
        self.assertEqual(tools_needed((), [200] * 200, 200), 200)
        self.assertEqual(tools_needed((), [200] * 200, 200, order="some"), 200)
        self.assertEqual(tools_needed((3,) * 60, [200] * 200, 200), 200)
        self.assertEqual(tools_needed((), [1] * 200, 1), 200)
        self.assertEqual(tools_needed((1,) * 60, [1] * 200, 1), 140)
        self.assertEqual(tools_needed((), [199] * 200, 200), 100)
        self.assertEqual(tools_needed((), [1] * 200, 200), 1)
        self.assertEqual(tools_needed((200,), list(range(1, 201)), 200), 7)
        self.assertEqual(tools_needed((200,), list(range(1, 201)), 200, order="some"), 0)
        self.assertEqual(tools_needed((), [100] * 200, 101, order="some"), 100)

    def test_any_other_order(self):
        for order in OTHER_ORDERS:
            with self.subTest(order=order):
                self.raised(InvalidOption, tools_needed, (3,), [3, 2], 2, order=order)
                # ahead of Impossible
                self.raised(InvalidOption, tools_needed, (3,), [9], 2, order=order)
                # after an invalid cap
                self.raised(InvalidNumber, tools_needed, (3,), [3, 2], 0, order=order)
                self.raised(InvalidNumber, tools_needed, (3,), [3, 2], None, order=order)
                self.raised(InvalidNumber, tools_needed, order=order, cap=201, heap=[3, 2], lot=(3,))

    def test_wrong_caps(self):
        for cap in [None, *OTHER_CAPS]:
            self.raised(InvalidNumber, tools_needed, (3,), [3, 2], cap)
            self.raised(InvalidNumber, tools_needed, (3,), [9], cap, order="some")


class LeastLotTest(Case):
    def test_examples(self):
        self.assertEqual(least_lot([3, 2, 1, 1], 3), (3, 3, 1))

    def test_some_heaps(self):
        for heap, cap, lot in [
            ([], 1, ()), ([], 200, ()), ([1], 1, (1,)), ([1], 200, (1,)), ([200], 200, (200,)), ([3, 3], 3, (3, 3)),
            ([3, 3], 4, (4,)), ([3, 3], 200, (4,)), ([3, 3, 3], 4, (4, 3)), ([1] * 7, 3, (3, 3, 1)),
            ([1] * 8, 3, (3, 3, 2)), ([1] * 9, 3, (3, 3, 3)), ([4, 2, 2, 1], 4, (4, 4)), ([4, 2, 2, 2], 4, (4, 4)),
            ([4, 2, 2, 2, 1], 4, (4, 4, 1)), ([4, 2, 2, 2, 2], 4, (4, 4, 2)), ([1] * 200, 200, (200,)),
            ([5, 1, 1], 7, (7,)), ([5, 1, 1], 6, (6, 1)),
        ]:
            with self.subTest(heap=heap, cap=cap):
                self.assertEqual(least_lot(heap, cap), lot)
                self.assertEqual(least_lot(cap=cap, heap=heap[::-1]), lot)

    def test_against_all_small_lots(self):
        lots = lots_with_steel(12)
        for cap in (1, 2, 3, 4, 6):
            for heap in heaps_up_to(4, min(cap, 3)):
                result = least_lot(heap, cap)
                self.assertTrue(is_lot(result))
                self.assertLessEqual(max((0, *result)), cap)
                good = [lot for lot in lots if max((0, *lot)) <= cap and enough(lot, heap, "every")]
                self.assertIn(result, good)
                self.assertEqual(steel(result), min(steel(lot) for lot in good), (heap, cap))
                self.assertEqual(len(result), min(len(lot) for lot in good), (heap, cap))

    def test_results_at_the_limits(self):
        self.assertEqual(least_lot([1] * 60, 1), (1,) * 60)
        self.raised(TooLarge, least_lot, [1] * 61, 1)
        self.assertEqual(least_lot([3] * 60, 3), (3,) * 60)
        self.raised(TooLarge, least_lot, [3] * 61, 3)
        self.assertEqual(least_lot([1] * 120, 2), (2,) * 60)
        self.raised(TooLarge, least_lot, [1] * 121, 2)
        self.assertEqual(least_lot([100, 100], 100), (100, 100))
        self.raised(TooLarge, least_lot, [100, 100, 1], 100)
        self.assertEqual(least_lot([100, 100, 1], 101), (101, 1))
        self.raised(TooLarge, least_lot, [101, 100], 101)
        self.assertEqual(least_lot([199, 1], 200), (200,))
        self.raised(TooLarge, least_lot, [200, 1], 200)
        self.raised(TooLarge, least_lot, [200] * 200, 200)
        self.raised(TooLarge, least_lot, [1] * 200, 1)
        self.assertEqual(least_lot([4] * 50, 4), (4,) * 50)
        self.raised(TooLarge, least_lot, [4] * 50 + [1], 4)

    def test_a_need_above_the_cap(self):
        for heap, cap in [
            ([2], 1), ([1, 5, 3], 4), ([5, 6, 7], 4), ([200, 1], 199),
            # ahead of TooLarge
            ([1] * 100 + [2], 1), ([200] * 200, 199), ([100] * 150 + [101], 100),
        ]:
            with self.subTest(heap=heap, cap=cap):
                self.assertEqual(self.impossible(least_lot, heap, cap), max(heap))

    def test_wrong_caps(self):
        for cap in [None, *OTHER_CAPS]:
            self.raised(InvalidNumber, least_lot, [3, 2], cap)
            self.raised(InvalidNumber, least_lot, [], cap)
            self.raised(InvalidNumber, least_lot, [200] * 200, cap)


if __name__ == "__main__":
    unittest.main()
