"""The checks of arguments, for each function of the package."""

import copy
import importlib
import inspect
import unittest

from keenlot import books, compare, counting, days, heaps, keeping, lots, sharpening, work
from keenlot.errors import (
    CannotDo, Impossible, InvalidLot, InvalidNumber, InvalidPicks, InvalidRow, KeenError, TooLarge, TooSharp,
)
from tests.kinds import DEEP, KINDS
from tests.test_interface import SIGNATURES

# for each function its arguments: the name, the kind, a value with which the call succeeds
CALLS = {
    lots.make_lot: [("values", "values", [1, 3, 0])],
    lots.steel: [("lot", "lot", (3, 1))],
    lots.top_sum: [("lot", "lot", (3, 1)), ("count", "count", 0)],
    lots.capacity: [("lot", "lot", (3, 1)), ("need", "positive", 200)],
    lots.count_from: [("lot", "lot", ()), ("need", "positive", 1)],
    lots.combine: [("first", "lot", (3, 1)), ("second", "lot", (2,))],
    lots.remove: [("lot", "lot", (3, 1)), ("tools", "lot", (1,))],
    work.choices: [("lot", "lot", (3, 1)), ("need", "positive", 2)],
    work.use: [("lot", "lot", (3, 1)), ("tool", "positive", 3), ("need", "positive", 2)],
    work.walk: [("lot", "lot", (3, 1)), ("row", "row", [2]), ("picks", "picks", [3])],
    work.work: [("lot", "lot", (3, 1)), ("row", "row", [2]), ("by", "rule", "sharpest")],
    work.serve: [("lot", "lot", (3, 1)), ("row", "row", [2]), ("by", "rule", "dullest")],
    work.outcomes: [("lot", "lot", (3, 1)), ("row", "row", [2, 1])],
    work.ways: [("lot", "lot", (3, 1)), ("row", "row", [])],
    work.loss: [("lot", "lot", (3, 1)), ("need", "positive", 1), ("tool", "positive", 3)],
    work.regret: [("lot", "lot", (3, 1)), ("need", "positive", 1), ("tool", "positive", 3)],
    compare.covers: [("first", "lot", (3, 1)), ("second", "lot", (2, 2))],
    compare.gap: [("first", "lot", (3, 1)), ("second", "lot", (4,))],
    compare.parting_row: [("first", "lot", (3, 1)), ("second", "lot", (4,))],
    compare.least_cover: [("lots", "lots", [(4,), (2, 2, 2)])],
    compare.greatest_covered: [("lots", "lots", [(4,), (2, 2, 2)])],
    heaps.can_some: [("lot", "lot", (3, 1)), ("heap", "row", [1, 3, 2])],
    heaps.can_every: [("lot", "lot", (3, 1)), ("heap", "row", [1, 3, 2])],
    heaps.blocks: [("lot", "lot", (4, 2)), ("heap", "row", [1, 3, 1, 1])],
    heaps.is_plan: [("lot", "lot", (4, 2)), ("heap", "row", [3, 1, 1, 1]), ("value", "any", [[1, 3], [1, 1]])],
    heaps.best_left: [("lot", "lot", (3, 2)), ("heap", "row", [1, 2])],
    heaps.worst_left: [("lot", "lot", (3, 2)), ("heap", "row", [2, 1])],
    heaps.most_done: [("lot", "lot", (3, 1)), ("heap", "row", [1, 3, 2, 1])],
    heaps.fewest_done: [("lot", "lot", (3, 1)), ("heap", "row", [3, 1, 2, 1])],
    heaps.count_orders: [("heap", "row", [2, 1, 1])],
    heaps.count_good_orders: [("lot", "lot", (2,)), ("heap", "row", [2, 1])],
    sharpening.sharpen: [("lot", "lot", (5, 2)), ("steps", "count", 3), ("cap", "cap", 6)],
    sharpening.steps_needed: [
        ("lot", "lot", (2,)), ("heap", "row", [2, 1]), ("order", "order", "some"), ("cap", "cap", 2),
    ],
    sharpening.tools_needed: [
        ("lot", "lot", (3,)), ("heap", "row", [1, 3, 2, 2]), ("cap", "positive", 2), ("order", "order", "some"),
    ],
    sharpening.least_lot: [("heap", "row", [1, 3, 2, 1]), ("cap", "positive", 3)],
    keeping.tools_kept: [("lot", "lot", (5, 3, 1)), ("heap", "row", [1, 3]), ("order", "order", "some")],
    keeping.tools_spared: [("lot", "lot", (5, 3, 1)), ("heap", "row", [1, 3]), ("order", "order", "every")],
    keeping.lose: [("lot", "lot", (3, 1)), ("count", "count", 1)],
    keeping.run_events: [("lot", "lot", (2,)), ("events", "events", [("task", 2), ("sharpen", 2), ("lose", 0)])],
    days.through: [
        ("lot", "lot", (2,)), ("days", "days", [[2], [], [2, 1]]), ("steps", "count", 1), ("cap", "cap", 3),
    ],
    days.through_any: [
        ("lot", "lot", (2,)), ("days", "days", [[2], [], [2, 1]]), ("steps", "count", 1), ("cap", "cap", 3),
    ],
    days.even_steps: [("lot", "lot", (2,)), ("days", "days", [[2], [2, 1]])],
    counting.covered_lots: [("lot", "lot", (3, 1))],
    counting.count_covered: [("lot", "lot", (3, 1))],
    books.allows: [("book", "book", [[1, 2], []]), ("row", "row", [1, 1])],
    books.serves: [("lot", "lot", (3, 1)), ("book", "book", [[1, 2], [1]])],
    books.failing_row: [("lot", "lot", (3, 1)), ("book", "book", [[1, 2], [3, 1, 2]])],
    books.reduce_book: [("book", "book", [[1, 2], [1], [], [1, 1, 1]])],
    books.either: [("first", "book", [[1, 2], [1]]), ("second", "book", [[1, 2], [1, 1, 1]])],
    books.merge: [("first", "book", [[1, 2], [1]]), ("second", "book", [[1, 2], [1, 1, 1]])],
    books.limit_tasks: [("book", "book", [[1, 2], [1, 1, 1]]), ("count", "count", 2)],
    books.steps_for: [("lot", "lot", (3, 1)), ("book", "book", [[1, 2], [3, 1, 2]])],
}
# calls whose arguments have the form, but that raise one of the further errors
FAILING = [
    (lots.combine, [(200,), (1,)], TooLarge),
    (work.outcomes, [(1,) * 7, [1] * 11], TooLarge),
    (work.ways, [(1,) * 7, [1] * 11], TooLarge),
    (heaps.blocks, [(2,), [1, 2]], Impossible),
    (heaps.best_left, [(2,), [2, 2]], Impossible),
    (heaps.worst_left, [(2,), [1, 2]], Impossible),
    (heaps.count_orders, [[1] * 8], TooLarge),
    (heaps.count_good_orders, [(2,), [1] * 8], TooLarge),
    (sharpening.sharpen, [(5, 2), 200, 4], TooSharp),
    (sharpening.sharpen, [(5, 2), 200, 5], TooLarge),
    (sharpening.sharpen, [(5, 2), 200, None], TooLarge),
    (sharpening.steps_needed, [(5, 2), [9], "every", 4], TooSharp),
    (sharpening.steps_needed, [(5, 2), [9], "some", 5], Impossible),
    (sharpening.tools_needed, [(5, 2), [9], 4, "every"], Impossible),
    (sharpening.tools_needed, [(5, 2), [9], 4, "some"], Impossible),
    (sharpening.least_lot, [[200] * 200, 199], Impossible),
    (sharpening.least_lot, [[200] * 200, 200], TooLarge),
    (keeping.tools_kept, [(5, 2), [9], "every"], Impossible),
    (keeping.tools_spared, [(5, 2), [9], "some"], Impossible),
    (keeping.run_events, [(200,), [("sharpen", 1)]], TooLarge),
    (days.through, [(5,), [[6]], 0, 4], TooSharp),
    (days.through, [(5,), [[6]], 0, None], CannotDo),
    (days.through, [(200,), [[], []], 1, 200], TooLarge),
    (days.through_any, [(5,), [[6]], 0, 4], TooSharp),
    (days.through_any, [(200,), [[], []], 1, None], TooLarge),
    (counting.covered_lots, [(13,)], TooLarge),
    (counting.count_covered, [(41,)], TooLarge),
    (books.either, [[[at] * (30 - at) for at in range(1, 21)], [[21] * 9]], TooLarge),
    (books.merge, [[[1] * 200], [[1]]], TooLarge),
]


def call(function, parameters, values, by_name):
    """Call with these values, by name as far as possible or by position as far as possible."""
    named = dict(zip([name for name, _, _ in parameters], values))
    if by_name:
        return function(**dict(reversed(named.items())))
    by_position = [named.pop(name) for name in list(named) if name not in keyword_only(function)]
    return function(*by_position, **named)


def keyword_only(function):
    found = inspect.signature(function).parameters.values()
    return [parameter.name for parameter in found if parameter.kind is parameter.KEYWORD_ONLY]


def lists_within(value):
    """All lists that stand in a value, itself included."""
    if not isinstance(value, (list, tuple)):
        return []
    own = [value] if isinstance(value, list) else []
    return own + [part for item in value for part in lists_within(item)]


class ArgumentsTest(unittest.TestCase):
    def check(self, error, function, parameters, values):
        for by_name in (False, True):
            given = copy.deepcopy(values)
            with self.assertRaises(KeenError, msg=f"{function.__name__}{tuple(values)}") as caught:
                call(function, parameters, given, by_name)
            self.assertIs(type(caught.exception), error, f"{function.__name__}{tuple(values)}")
            self.assertEqual(given, values)
            if error is InvalidPicks:
                self.assertIsNone(caught.exception.index)

    def test_each_function_is_listed(self):
        for module, signatures in SIGNATURES.items():
            for name in signatures:
                function = getattr(importlib.import_module(f"keenlot.{module}"), name)
                with self.subTest(name):
                    if function is not lots.is_lot:
                        names = [parameter for parameter, _, _ in CALLS[function]]
                        self.assertEqual(list(inspect.signature(function).parameters), names)

    def test_arguments_by_name_give_the_same_result(self):
        for function, parameters in CALLS.items():
            with self.subTest(function.__name__):
                values = [value for _, _, value in parameters]
                by_position = call(function, parameters, copy.deepcopy(values), False)
                by_name = call(function, parameters, copy.deepcopy(values), True)
                self.assertEqual(by_position, by_name)

    def test_arguments_are_not_modified(self):
        for function, parameters in CALLS.items():
            with self.subTest(function.__name__):
                values = [value for _, _, value in parameters]
                given = copy.deepcopy(values)
                call(function, parameters, given, False)
                self.assertEqual(given, values)

    def test_each_argument_in_turn(self):
        for function, parameters in CALLS.items():
            values = [value for _, _, value in parameters]
            for at, (name, kind, _) in enumerate(parameters):
                error, wrong_values = KINDS[kind]
                with self.subTest(function.__name__, name=name):
                    for wrong in wrong_values:
                        self.check(error, function, parameters, values[:at] + [wrong] + values[at + 1:])

    def test_the_first_wrong_argument_decides(self):
        for function, parameters in CALLS.items():
            values = [value for _, _, value in parameters]
            for at, (name, kind, _) in enumerate(parameters):
                error, wrong_values = KINDS[kind]
                for behind in range(at + 1, len(parameters)):
                    with self.subTest(function.__name__, name=name, behind=parameters[behind][0]):
                        for wrong in wrong_values:
                            for further in KINDS[parameters[behind][1]][1][::7]:
                                given = list(values)
                                given[at] = wrong
                                given[behind] = further
                                self.check(error, function, parameters, given)

    def test_all_wrong_at_once(self):
        for function, parameters in CALLS.items():
            error = KINDS[parameters[0][1]][0]
            for wrong in [None, True, "abc", -1, 10 ** 99, DEEP]:
                with self.subTest(function.__name__, wrong=wrong):
                    self.check(error, function, parameters, [wrong] * len(parameters))

    def test_the_form_comes_before_the_further_errors(self):
        for function, values, further in FAILING:
            parameters = CALLS[function]
            self.check(further, function, parameters, values)
            for at, (name, kind, _) in enumerate(parameters):
                error, wrong_values = KINDS[kind]
                with self.subTest(function.__name__, values=values[:1], name=name):
                    for wrong in wrong_values:
                        self.check(error, function, parameters, values[:at] + [wrong] + values[at + 1:])

    def test_options_and_caps_are_passed_by_name_only(self):
        for function, parameters in CALLS.items():
            names = keyword_only(function)
            if names:
                with self.subTest(function.__name__):
                    values = [value for _, _, value in parameters]
                    for many in range(len(names)):
                        with self.assertRaises(TypeError):
                            function(*values[:len(values) - many])

    def test_the_defaults(self):
        for function, values, named in [
            (work.work, [(3, 1), [2, 1]], {"by": "dullest"}),
            (work.serve, [(3, 1), [2, 1]], {"by": "dullest"}),
            (sharpening.sharpen, [(5, 2), 3], {"cap": None}),
            (days.through, [(2,), [[2], [2, 1]], 1], {"cap": None}),
            (days.through_any, [(2,), [[2], [1, 2]], 2], {"cap": None}),
            (sharpening.steps_needed, [(2,), [1, 2]], {"order": "every", "cap": None}),
            (sharpening.tools_needed, [(3,), [3, 2, 2, 1], 2], {"order": "every"}),
            (keeping.tools_kept, [(3, 2, 1), [3, 2, 1]], {"order": "every"}),
            (keeping.tools_spared, [(3, 3, 3), [3, 2, 1]], {"order": "every"}),
        ]:
            with self.subTest(function.__name__):
                self.assertEqual(function(*values), function(*values, **named))

    def test_equal_arguments_give_equal_results_of_their_own(self):
        for function, parameters in CALLS.items():
            with self.subTest(function.__name__):
                values = [value for _, _, value in parameters]
                first = call(function, parameters, values, False)
                kept = copy.deepcopy(first)
                second = call(function, parameters, values, False)
                self.assertEqual(second, kept)
                if isinstance(first, list):
                    self.assertIsNot(first, second)
                    first.append(7)
                    self.assertEqual(second, kept)
                    self.assertEqual(call(function, parameters, values, False), kept)

    def test_no_list_stands_in_a_result_twice_or_in_an_argument_too(self):
        for function, parameters in CALLS.items():
            with self.subTest(function.__name__):
                values = copy.deepcopy([value for _, _, value in parameters])
                result = call(function, parameters, values, False)
                found = [id(part) for part in lists_within(result)]
                self.assertEqual(len(found), len(set(found)))
                self.assertEqual(set(found) & {id(part) for part in lists_within(values)}, set())

    def test_the_form_comes_before_all_other_conditions(self):
        for function, values, error in [
            (lots.combine, [(200,), (0,)], InvalidLot),
            (lots.remove, [(), (1, 2)], InvalidLot),
            (work.use, [(3, 1), 2, 0], InvalidNumber),
            (work.use, [(3, 1), 201, 1], InvalidNumber),
            (work.walk, [(3, 1), [0], [9]], InvalidRow),
            (work.loss, [(3, 1), 0, 2], InvalidNumber),
            (work.regret, [(3, 1), 4, 201], InvalidNumber),
            (work.work, [(3, 1), [4, 0]], InvalidRow),
        ]:
            with self.subTest(function.__name__, values=values):
                with self.assertRaises(error):
                    function(*values)

    def test_rows_at_the_limit(self):
        for row in ([200] * 200, [1] * 200):
            self.assertEqual(work.serve((), row), ([0] * 200, ()))
            self.assertEqual(work.walk((), row, [0] * 200), ())
            for wrong in (row + [1], row[1:] + [0], row[1:] + [201], tuple(row)):
                with self.assertRaises(InvalidRow):
                    work.serve((), wrong)


if __name__ == "__main__":
    unittest.main()
