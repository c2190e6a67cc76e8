"""Block plans: blocks and is_plan."""

import unittest
from itertools import product

from keenlot.errors import Impossible
from keenlot.heaps import blocks, can_every, is_plan
from tests.cases import Case
from tests.walks import enough, heaps_up_to, lots_with_steel

SMALL = [(lot, heap) for lot in lots_with_steel(6) for heap in heaps_up_to(4, 4)]
SMALL = SMALL + [(lot, heap) for lot in [(5, 3), (5, 2, 1), (4, 4), (6, 1)] for heap in heaps_up_to(3, 7)]
LARGE = [
    ((200,), [1] * 200), ((100, 100), [1] * 200), ((3,) * 60, [3] * 60), ((4,) * 50, [2] * 150), ((200,), [7] * 194),
    ((60, 50, 40, 30, 20), [11] * 150), ((9, 8, 7, 6, 5, 4, 3, 2, 1), [1, 2, 3, 4, 5, 6, 7, 8, 9]),
    ((40,) * 5, [40, 39, 39, 38, 38, 38, 30, 30, 30, 30, 1, 1, 1, 1]),
]


def plan_of(lot, heap):
    """The plan of the document, one task at a time, or the need that it fails at."""
    left = sorted(heap)
    plan = []
    for tool in lot:
        taken = []
        if left and left[-1] > tool:
            return left[-1]
        while left and tool >= (taken or [left[-1]])[0] + len(taken):
            taken.append(left.pop())
        plan.append(taken)
    return left[-1] if left else plan


def assignments(lot, heap):
    """All plans that assign the tasks to the tools, good ones and others."""
    for owners in product(range(len(lot)), repeat=len(heap)):
        yield [[need for need, owner in zip(heap, owners) if owner == at] for at in range(len(lot))]


def changed_plans(plan):
    """The plan with one need moved, raised, lowered, dropped or repeated."""
    for at, needs in enumerate(plan):
        for place in range(len(needs)):
            rest = needs[:place] + needs[place + 1:]
            for other in range(len(plan)):
                moved = [list(found) for found in plan]
                moved[at] = rest
                moved[other] = moved[other] + [needs[place]]
                yield moved
            for new in ([needs[place] + 1], [needs[place] - 1], [], [needs[place]] * 2):
                yield plan[:at] + [rest + new] + plan[at + 1:]


def is_good(lot, heap, plan):
    """Whether the plan is the heap and each tool performs its list in every order."""
    if sorted(need for needs in plan for need in needs) != sorted(heap):
        return False
    return all(enough((tool,), needs, "every") for tool, needs in zip(lot, plan))


class BlocksTest(Case):
    def test_examples(self):
        found = [blocks((4, 2), [3, 1, 1, 1]), is_plan((4, 2), [3, 1, 1, 1], [[1, 3], [1, 1]])]
        self.assertEqual(found, [[[3, 1], [1, 1]], True])
        self.assertEqual(self.impossible(blocks, (2,), [1, 2]), 1)

    def test_some_plans(self):
        for lot, heap, plan in [
            ((), [], []), ((3, 1), [], [[], []]), ((3,), [2], [[2]]), ((3, 2), [1], [[1], []]),
            ((3, 2, 1), [1, 2, 3], [[3], [2], [1]]), ((5, 3), [3, 1, 2, 2], [[3, 2, 2], [1]]),
            ((5, 3), [3, 3, 3, 3], [[3, 3, 3], [3]]), ((4, 4, 4), [2, 1], [[2, 1], [], []]),
            ((4, 3, 3), [4, 1, 1, 1, 1], [[4], [1, 1, 1], [1]]), ((200,), [200], [[200]]),
            ((200,), [1] * 200, [[1] * 200]), ((100, 100), [1] * 150, [[1] * 100, [1] * 50]),
            ((3,) * 60, [3] * 59, [[3]] * 59 + [[]]),
        ]:
            with self.subTest(lot=lot, heap=heap):
                self.assertEqual(blocks(lot, heap), plan)
                self.assertEqual(blocks(heap=heap[::-1], lot=lot), plan)

    def test_the_next_tool_is_too_dull(self):
        self.assertEqual(self.impossible(blocks, (3, 1), [4]), 4)
        self.assertEqual(self.impossible(blocks, (3, 1), [3, 2]), 2)
        self.assertEqual(self.impossible(blocks, (3, 2, 1), [3, 2, 2, 1]), 2)
        self.assertEqual(self.impossible(blocks, (5, 3, 3), [5, 4, 1]), 4)
        self.assertEqual(self.impossible(blocks, (199, 1), [200, 1]), 200)
        self.assertEqual(self.impossible(blocks, (6, 3), [5, 5, 4, 1, 1]), 4)

    def test_no_tool_is_left(self):
        self.assertEqual(self.impossible(blocks, (), [4, 5]), 5)
        self.assertEqual(self.impossible(blocks, (3, 3), [3, 3, 2, 1]), 2)
        self.assertEqual(self.impossible(blocks, (3,), [1, 1, 1, 1]), 1)
        self.assertEqual(self.impossible(blocks, (200,), [2, 1] * 100), 1)
        self.assertEqual(self.impossible(blocks, (1,) * 60, [1] * 61), 1)

    def test_against_one_task_at_a_time(self):
        for lot, heap in SMALL + LARGE:
            expected = plan_of(lot, heap)
            if isinstance(expected, list):
                self.assertEqual(blocks(lot, heap), expected, (lot, heap))
            else:
                self.assertEqual(self.impossible(blocks, lot, heap), expected, (lot, heap))

    def test_a_plan_exists_if_every_order_can_be_performed(self):
        for lot, heap in SMALL + LARGE[:6]:
            try:
                plan = blocks(lot, heap)
            except Impossible:
                self.assertIs(can_every(lot, heap), False, (lot, heap))
            else:
                self.assertIs(can_every(lot, heap), True, (lot, heap))
                self.assertIs(is_plan(lot, heap, plan), True, (lot, heap))

    def test_no_two_lists_are_the_same_object(self):
        for lot, heap in [((1,) * 60, []), ((3,) * 60, [3] * 60), ((2, 2, 2), [1]), ((2, 2, 2), [2, 2]), ((9, 3), [1])]:
            plan = blocks(lot, heap)
            self.assertEqual(len({id(needs) for needs in plan}), len(lot))
            for needs in plan:
                needs.append(7)
            self.assertEqual([needs[-1:] for needs in plan], [[7]] * len(lot))
            self.assertEqual([needs.count(7) for needs in plan], [1] * len(lot))

    def test_results_belong_to_the_caller(self):
        heap = [3, 1, 1, 1]
        plan = blocks((4, 2), heap)
        plan[0].clear()
        plan.pop()
        self.assertEqual(heap, [3, 1, 1, 1])
        self.assertEqual(blocks((4, 2), heap), [[3, 1], [1, 1]])
        lone = blocks((3,), [2])
        heap = [2]
        other = blocks((3,), heap)
        heap.append(1)
        self.assertEqual([lone, other], [[[2]], [[2]]])


class IsPlanTest(Case):
    def test_against_every_assignment(self):
        for lot, heap in SMALL:
            found = [is_plan(lot, heap, plan) for plan in assignments(lot, heap)]
            self.assertEqual(found, [is_good(lot, heap, plan) for plan in assignments(lot, heap)], (lot, heap))
            self.assertEqual(any(found), enough(lot, heap, "every"), (lot, heap))

    def test_changed_plans(self):
        for lot, heap in SMALL + LARGE[6:]:
            if can_every(lot, heap):
                for plan in changed_plans(blocks(lot, heap)):
                    self.assertIs(is_plan(lot, heap, plan), is_good(lot, heap, plan), (lot, heap, plan))

    def test_one_need_changed(self):
        lot, heap = (5, 3, 1), [4, 2, 2, 1]
        self.assertIs(is_plan(lot, heap, [[4, 2], [2], [1]]), True)
        for plan in [
            [[4, 2, 1], [2], []], [[4], [2, 2, 1], []], [[4, 2], [], [2, 1]], [[5, 2], [2], [1]], [[4, 2], [3], [1]],
            [[4, 2], [2], [2]], [[4, 2], [2], []], [[4, 2], [2], [1, 1]], [[4, 2], [2, 2], [1]], [[4, 2], [2], [0]],
            [[2], [4, 2], [1]], [[4, 1], [2], [2]], [[], [], []], [[4, 2], [2, 1], [1]], [[4, 2], [1], [1]],
        ]:
            with self.subTest(plan=plan):
                self.assertIs(is_plan(lot, heap, plan), False)

    def test_the_order_within_a_list_does_not_matter(self):
        for plan in [[[2, 4], [2], [1]], [[4], [2, 2], [1]], [[2, 4], [1, 2], []], [[4, 1], [2, 2], []]]:
            self.assertIs(is_plan((5, 3, 1), [1, 2, 2, 4], plan), True)

    def test_an_empty_list_may_belong_to_any_tool(self):
        self.assertIs(is_plan((3, 2, 1), [1], [[], [], [1]]), True)
        self.assertIs(is_plan((3, 2, 1), [1], [[], [1], []]), True)
        self.assertIs(is_plan((3, 2, 1), [], [[], [], []]), True)
        self.assertIs(is_plan((), [], []), True)

    def test_the_greatest_need_and_the_number_of_needs_count(self):
        self.assertIs(is_plan((5,), [3, 1, 1], [[1, 3, 1]]), True)
        self.assertIs(is_plan((4,), [3, 1, 1], [[3, 1, 1]]), False)
        self.assertIs(is_plan((4,), [3, 1], [[3, 1]]), True)
        self.assertIs(is_plan((200,), [200], [[200]]), True)
        self.assertIs(is_plan((200,), [200, 1], [[200, 1]]), False)
        self.assertIs(is_plan((200,), [1] * 200, [[1] * 200]), True)

    def test_another_number_of_lists(self):
        for plan in [[], [[3, 1]], [[3, 1], [1, 1], []], [[3, 1, 1, 1]], [[], [3, 1], [1, 1]], [[]]]:
            self.assertIs(is_plan((4, 2), [3, 1, 1, 1], plan), False)
        self.assertIs(is_plan((), [], [[]]), False)
        self.assertIs(is_plan((), [1], []), False)
        self.assertIs(is_plan((), [1], [[1]]), False)
        self.assertIs(is_plan((3,), [], []), False)
        # as many lists as the lot had tools before its last one was worn out
        self.assertIs(is_plan((3, 3, 3), [2], [[2], []]), False)

    def test_any_other_value(self):
        for value in [
            None, True, False, 0, 1, -5, 10 ** 99, "", "[[1], [1]]", "11", (), (1, 1), ([1], [1]), ((1,), (1,)),
            [1, 1], [(1,), (1,)], [[1], (1,)], [(1,), [1]], ["1", "1"], [["1"], [1]], [[1], [None]], [[True], [1]],
            [[1], [True]], [[True], [True]], [[1], [[1]]], [[[1]], [[1]]], [[1, []], [1]], [None, None], [[1], None],
            [[1], "1"], [[1, True], []], [[1], [1], None], [[1, 1], [()]], [[1, 1, False], []], [[1, 1, 0], []],
            [[1, 1], [0]], [[1], [-1, 1, 1]], [[10 ** 99], [1]], [[1], [1, 10 ** 99]], [[1, "a"], ["b", None]],
            [True, [1, 1]], [[1, 1], [201]], [[[[[[[[[[1]]]]]]]]], [1]], [[1, 1], 0], [[1, 1], ""], [[1, 1], ()],
        ]:
            with self.subTest(value=value):
                self.assertIs(is_plan((3, 2), [1, 1], value), False)

    def test_bools_are_no_needs(self):
        self.assertIs(is_plan((3,), [1], [[1]]), True)
        self.assertIs(is_plan((3,), [1], [[True]]), False)
        self.assertIs(is_plan((3,), [], [False]), False)

    def test_one_object_may_stand_twice_in_the_value(self):
        needs = [1]
        self.assertIs(is_plan((3, 2), [1, 1], [needs, needs]), True)

    def test_arguments(self):
        heap, plan = [1, 3, 1, 1], [[1, 3], [1, 1]]
        self.assertIs(is_plan(value=plan, heap=heap, lot=(4, 2)), True)
        self.assertEqual((heap, plan), ([1, 3, 1, 1], [[1, 3], [1, 1]]))

    def test_plans_at_the_limits(self):
        for lot, heap in LARGE[:6]:
            plan = blocks(lot, heap)
            self.assertIs(is_plan(lot, heap, plan), True)
            self.assertIs(is_plan(lot, heap, [needs[::-1] for needs in plan]), True)
            self.assertIs(is_plan(lot, heap[1:], plan), False)
            self.assertIs(is_plan(lot, heap, plan[:-1] + [plan[-1][1:]]), False)


if __name__ == "__main__":
    unittest.main()
