import unittest
from itertools import combinations

from keenlot.errors import InvalidEvents, InvalidOption, TooLarge
from keenlot.heaps import best_left, worst_left
from keenlot.keeping import lose, run_events, tools_kept, tools_spared
from keenlot.lots import is_lot
from keenlot.sharpening import sharpen
from keenlot.work import serve
from tests.cases import Case
from tests.walks import enough, heaps_up_to, lots_with_steel

SMALL = [(lot, heap) for lot in lots_with_steel(6) for heap in heaps_up_to(3, 4)]
SMALL = SMALL + [(lot, heap) for lot in [(5, 3, 1), (5, 2, 2, 1), (4, 4), (3, 3, 3)] for heap in heaps_up_to(4, 5)]
WRONG_EVENTS = [
    None, True, False, 0, 1, 10 ** 99, "", "task", (), ("task", 2), (("task", 2),), [None], [True], [0], [""],
    ["task"], ["ab"], [()], [[]], [("task",)], [("task", 2, 3)], [("task", 2), ("lose",)], [["task", 2]],
    [[("task", 2)]], [("task", 0)], [("task", -1)], [("task", 201)], [("task", 10 ** 99)], [("task", True)],
    [("task", None)], [("task", "2")], [("task", (2,))], [("task", [2])], [("sharpen", -1)], [("sharpen", 201)],
    [("sharpen", True)], [("sharpen", False)], [("sharpen", None)], [("sharpen", -(10 ** 99))], [("sharpen", [1])],
    [("lose", -1)], [("lose", 201)], [("lose", False)], [("lose", None)], [("lose", "1")], [("lose", ())],
    [("Task", 2)], [("tasks", 2)], [("", 2)], [(None, 2)], [(True, 2)], [(1, 2)], [(2, "task")], [("rest", 0)],
    [(["task"], 2)], [(("task",), 2)], [([], [])], [("sharpened", 1)], [("task", 2), None],
    [("task", 2), ("undo", 1)], [("lose", 1)] * 200 + [("lose", 1)], [("task", 1)] * 201, [("sharpen", 0)] * 201,
    [("sharpen", 200), ("sharpen", 1), ("lose", 201)], [((("task", 2),),)],
]


class ToolsTest(Case):
    def test_examples(self):
        self.assertEqual([tools_kept((5, 3, 1), [3]), tools_spared((5, 3, 1), [3])], [1, 1])

    def test_some_heaps(self):
        for lot, heap, kept, spared, kept_some, spared_some in [
            ((), [], 0, 0, 0, 0), ((5, 3, 1), [], 0, 3, 0, 3), ((3,), [3], 1, 0, 1, 0), ((3,) * 5, [3], 1, 4, 1, 4),
            ((5, 3, 1), [5], 1, 0, 1, 0), ((5, 3, 1), [1], 1, 2, 1, 2), ((3, 2, 1), [3, 2, 1], 3, 0, 1, 0),
            ((3, 3, 3), [3, 2, 1], 2, 1, 1, 2), ((200,), [1] * 200, 1, 0, 1, 0), ((1,) * 60, [1] * 7, 7, 53, 7, 53),
            ((3,) * 60, [3, 2, 1], 2, 58, 1, 59), ((4, 4, 2), [2, 2, 2, 2], 2, 1, 2, 1), ((9, 1), [1] * 9, 1, 0, 1, 0),
        ]:
            with self.subTest(lot=lot, heap=heap):
                self.assertEqual(tools_kept(lot, heap), kept)
                self.assertEqual(tools_spared(lot, heap), spared)
                self.assertEqual(tools_kept(lot, heap, order="every"), kept)
                self.assertEqual(tools_spared(lot, heap, order="every"), spared)
                self.assertEqual(tools_kept(order="some", heap=heap[::-1], lot=lot), kept_some)
                self.assertEqual(tools_spared(order="some", heap=heap[::-1], lot=lot), spared_some)

    def test_against_all_choices_of_tools(self):
        for lot, heap in SMALL:
            for order in ("every", "some"):
                if enough(lot, heap, order):
                    kept = [many for many in range(len(lot) + 1) if any(self.results(lot, heap, order, many))]
                    self.assertEqual(tools_kept(lot, heap, order=order), kept[0], (lot, heap, order))
                    # a removal of n tools keeps the others
                    spared = [n for n in range(len(lot) + 1) if all(self.results(lot, heap, order, len(lot) - n))]
                    self.assertEqual(tools_spared(lot, heap, order=order), spared[-1], (lot, heap, order))

    def results(self, lot, heap, order, many):
        """Whether the tools are enough, for each choice of this many tools."""
        return [enough(tools, heap, order) for tools in combinations(lot, many)]

    def test_the_sharpest_tools_decide(self):
        for lot, heap in SMALL:
            for order in ("every", "some"):
                for many in range(len(lot) + 1):
                    results = self.results(lot, heap, order, many)
                    self.assertEqual(any(results), enough(lot[:many], heap, order), (lot, heap, order))
                    self.assertEqual(all(results), enough(lot[len(lot) - many:], heap, order), (lot, heap, order))

    def test_whole_lots_that_are_just_enough(self):
        for lot, heap in [((1,) * 60, [1] * 60), ((200,), [1] * 200), ((3,) * 60, [3] * 60), ((40,) * 5, [1] * 200)]:
            for order in ("every", "some"):
                self.assertEqual(tools_kept(lot, heap, order=order), len(lot))
                self.assertEqual(tools_spared(lot, heap, order=order), 0)

    def test_impossible(self):
        for function in (tools_kept, tools_spared):
            for lot, heap, every, some in [
                ((), [1], 1, 1), ((2,), [1, 2], 1, None), ((2,), [3], 3, 3), ((5,), [4, 4, 3], 3, None),
                ((6, 3), [5, 5, 4, 1, 1], 4, None), ((5,), [4, 3, 3, 3, 3, 3], 3, 3), ((200,), [200, 200, 1], 200, 200),
            ]:
                with self.subTest(function.__name__, lot=lot, heap=heap):
                    self.assertEqual(self.impossible(function, lot, heap), every)
                    if some is None:
                        self.assertIn(function(lot, heap, order="some"), (0, 1))
                    else:
                        self.assertEqual(self.impossible(function, lot, heap, order="some"), some)

    def test_the_need_is_that_of_the_final_lots(self):
        for lot, heap in SMALL:
            for order, left in [("every", worst_left), ("some", best_left)]:
                if not enough(lot, heap, order):
                    need = self.impossible(left, lot, heap)
                    for function in (tools_kept, tools_spared):
                        self.assertEqual(self.impossible(function, lot, heap, order=order), need, (lot, heap, order))

    def test_any_other_order(self):
        for function in (tools_kept, tools_spared):
            for order in [
                None, True, False, 0, 1, 10 ** 99, "", "Some", "any", "some ", "none", (), [], ("every",), ["some"],
                ("every", "some"), [["every"]], ((None,),),
            ]:
                with self.subTest(function.__name__, order=order):
                    self.raised(InvalidOption, function, (5, 3, 1), [3], order=order)
                    # ahead of Impossible
                    self.raised(InvalidOption, function, (5, 3, 1), [6], order=order)
            with self.assertRaises(TypeError):
                function((5, 3, 1), [3], "some")


class LoseTest(Case):
    def test_lose(self):
        for lot, count, left in [
            ((5, 3, 1), 0, (5, 3, 1)), ((5, 3, 1), 1, (3, 1)), ((5, 3, 1), 2, (1,)), ((5, 3, 1), 3, ()),
            ((5, 3, 1), 4, ()), ((5, 3, 1), 200, ()), ((), 0, ()), ((), 1, ()), ((), 200, ()),
            ((3,) * 60, 1, (3,) * 59), ((3,) * 60, 60, ()), ((3,) * 60, 59, (3,)), ((3,) * 60, 61, ()),
            ((4, 4, 2), 1, (4, 2)), ((200,), 1, ()),
        ]:
            with self.subTest(lot=lot, count=count):
                self.assertEqual(lose(lot, count), left)
                self.assertEqual(lose(count=count, lot=lot), left)


class RunEventsTest(Case):
    def test_examples(self):
        self.assertEqual(run_events((2,), [("task", 2), ("sharpen", 2), ("task", 3)]), ([2, 3], (2,)))

    def test_some_events(self):
        for lot, events, picks, left in [
            ((), [], [], ()), ((3, 1), [], [], (3, 1)), ((3, 1), [("task", 1)], [1], (3,)),
            ((), [("sharpen", 3)], [], (3,)), ((3, 1), [("sharpen", 2)], [], (5, 1)),
            ((3, 1), [("lose", 1)], [], (1,)), ((3, 1), [("lose", 0)], [], (3, 1)), ((3, 1), [("lose", 200)], [], ()),
            ((3, 1), [("sharpen", 0)], [], (3, 1)), ((), [("sharpen", 0)], [], ()),
            ((3, 1), [("task", 4), ("task", 3), ("task", 200)], [0, 3, 0], (2, 1)),
            ((), [("task", 1)] * 3, [0, 0, 0], ()), ((1,), [("task", 1), ("sharpen", 2), ("task", 2)], [1, 2], (1,)),
            ((3, 1), [("lose", 1), ("task", 2), ("sharpen", 1), ("task", 2)], [0, 2], (1,)),
            ((2,), [("lose", 5), ("task", 1), ("sharpen", 4), ("task", 4), ("task", 4)], [0, 4, 0], (3,)),
            ((5, 3, 3, 1), [("task", 2), ("task", 2), ("sharpen", 3), ("lose", 1), ("task", 1)], [3, 2, 1], (3, 1)),
        ]:
            with self.subTest(lot=lot, events=events):
                self.assertEqual(run_events(lot, events), (picks, left))
                self.assertEqual(run_events(events=events, lot=lot), (picks, left))

    def test_one_event_is_its_function(self):
        for lot in lots_with_steel(6):
            for number in range(1, 9):
                self.assertEqual(run_events(lot, [("task", number)]), serve(lot, [number]))
                self.assertEqual(run_events(lot, [("sharpen", number)]), ([], sharpen(lot, number)))
                self.assertEqual(run_events(lot, [("lose", number)]), ([], lose(lot, number)))

    def test_event_by_event(self):
        kinds = [("task", 1), ("task", 2), ("task", 3), ("sharpen", 0), ("sharpen", 1), ("sharpen", 3), ("lose", 1)]
        for lot in lots_with_steel(4):
            for at in range(len(kinds) ** 3):
                events = [kinds[at % 7], kinds[at // 7 % 7], kinds[at // 49]]
                picks, left = [], lot
                for event in events:
                    more, left = run_events(left, [event])
                    picks.extend(more)
                self.assertEqual(run_events(lot, events), (picks, left), (lot, events))
                self.assertTrue(is_lot(left))

    def test_200_events(self):
        self.assertEqual(run_events((200,), [("task", 1)] * 200), (list(range(200, 0, -1)), ()))
        self.assertEqual(run_events((), [("task", 200)] * 200), ([0] * 200, ()))
        self.assertEqual(run_events((), [("sharpen", 1)] * 200), ([], (200,)))
        self.assertEqual(run_events((), [("sharpen", 1), ("task", 1)] * 100), ([1] * 100, ()))
        self.assertEqual(run_events((1,) * 60, [("lose", 1)] * 200), ([], ()))
        for event in [("task", 1), ("sharpen", 0), ("lose", 0)]:
            self.raised(InvalidEvents, run_events, (200,), [event] * 201)

    def test_invalid_events(self):
        for events in WRONG_EVENTS:
            with self.subTest(events=events):
                self.raised(InvalidEvents, run_events, (2,), events)
                # ahead of TooLarge
                self.raised(InvalidEvents, run_events, (200,), events)

    def test_one_invalid_event_among_others(self):
        good = [("sharpen", 1), ("task", 2), ("lose", 0)]
        wrong_ones = [["task", 1], ("task", 0), ("sharpen", 201), ("lose", -1), ("other", 1), ("task", True), ("task",)]
        for wrong in wrong_ones:
            for at in range(4):
                self.raised(InvalidEvents, run_events, (2,), good[:at] + [wrong] + good[at:])
                self.raised(InvalidEvents, run_events, (200,), good[:at] + [wrong] + good[at:])

    def test_numbers_at_their_ranges(self):
        self.assertEqual(run_events((200,), [("task", 200)]), ([200], (199,)))
        self.assertEqual(run_events((200,), [("task", 1)]), ([200], (199,)))
        self.assertEqual(run_events((), [("sharpen", 200)]), ([], (200,)))
        self.assertEqual(run_events((3,), [("lose", 200)]), ([], ()))
        self.assertEqual(run_events((3,), [("lose", 0), ("sharpen", 0)]), ([], (3,)))

    def test_the_steel_with_all_steps(self):
        self.assertEqual(run_events((150, 10), [("sharpen", 40)]), ([], (190, 10)))
        self.raised(TooLarge, run_events, (150, 10), [("sharpen", 41)])
        self.assertEqual(run_events((200,), [("sharpen", 0)]), ([], (200,)))
        self.raised(TooLarge, run_events, (200,), [("sharpen", 1)])
        self.assertEqual(run_events((), [("sharpen", 100), ("sharpen", 100)]), ([], (200,)))
        self.raised(TooLarge, run_events, (), [("sharpen", 100), ("sharpen", 100), ("sharpen", 1)])
        self.raised(TooLarge, run_events, (), [("sharpen", 200)] * 200)
        self.assertEqual(run_events((2,) * 60, [("sharpen", 80)]), ([], (82,) + (2,) * 59))
        # what the tasks and the losses take away does not count
        self.raised(TooLarge, run_events, (200,), [("task", 1), ("sharpen", 1)])
        self.raised(TooLarge, run_events, (200,), [("lose", 1), ("sharpen", 1)])
        self.raised(TooLarge, run_events, (200,), [("task", 200), ("lose", 200), ("sharpen", 200), ("lose", 200)])
        # needs and counts are no steps
        self.assertEqual(run_events((200,), [("task", 200), ("lose", 200)]), ([200], ()))

    def test_arguments_and_results(self):
        events = [("task", 2), ("sharpen", 2), ("task", 3)]
        picks, _ = run_events((2,), events)
        picks.clear()
        self.assertEqual(events, [("task", 2), ("sharpen", 2), ("task", 3)])
        self.assertEqual(run_events((2,), events), ([2, 3], (2,)))


class ExchangeTest(Case):
    """Point [30]: a task and the event behind it, with further events around them."""

    LATER = [[], [("task", 1)], [("task", 2), ("task", 1)], [("task", 3)], [("sharpen", 2), ("task", 3), ("task", 2)]]
    LATER = LATER + [[("lose", 1), ("task", 1), ("task", 1)], [("task", 1)] * 6]

    def lots_after(self, lot, events):
        return [run_events(lot, events[:many])[1] for many in range(len(events) + 1)]

    def compare(self, lot, before, task, event, later):
        """The numbers of performed tasks, and whether this one is, for both orders; and the lots after the two."""
        told = []
        for pair in ([task, event], [event, task]):
            events = [*before, *pair, *later]
            picks, _ = run_events(lot, events)
            at = len([word for word, _ in before if word == "task"])
            told.append((len(picks) - picks.count(0), picks[at] > 0, self.lots_after(lot, events)[len(before) + 2:]))
        return told

    def exchanges(self, word, numbers):
        for lot in lots_with_steel(6):
            for before in ([], [("task", 2)], [("sharpen", 1)], [("lose", 1)]):
                for need in range(1, 5):
                    for number in numbers:
                        for later in self.LATER:
                            yield self.compare(lot, before, ("task", need), (word, number), later)

    def test_a_task_and_a_sharpening_event(self):
        for (many, performed, lots), (many_exchanged, _, lots_exchanged) in self.exchanges("sharpen", (0, 1, 2, 4)):
            self.assertGreaterEqual(many_exchanged, many)
            if performed:
                self.assertEqual(lots_exchanged, lots)

    def test_a_task_and_a_losing_event(self):
        for (many, _, lots), (many_exchanged, performed, lots_exchanged) in self.exchanges("lose", (0, 1, 2, 4)):
            self.assertLessEqual(many_exchanged, many)
            if performed:
                self.assertEqual(lots_exchanged, lots)


if __name__ == "__main__":
    unittest.main()
