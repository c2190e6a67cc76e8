"""The checks of arguments, for each function of keenlot.lots and keenlot.work."""

import copy
import unittest

from keenlot import lots, work
from keenlot.errors import InvalidList, InvalidLot, InvalidNumber, InvalidOption, InvalidPicks, InvalidRow, KeenError

DEEP = [[[[[[[[[(3, 1)]]]]]]]]]
COMMON = [
    None, True, False, "", "abc", "dull", "(3, 1)", "[1]", (None,), (True,), (1, True), ((),), ((3, 1),), ((3,), [1]),
    [None], [True], [1, True], [False], [[]], [[1]], [[1], [2, [3]]], [(1,)], ["1"], ("1",), DEEP, (DEEP, DEEP),
    (1, 2), (0,), (3, 0), (-1,), (201,), (200, 1), (1,) * 61, (10 ** 99,), [0], [1, -1], [-1], [201], [10 ** 99],
    [1] * 200 + [0], -1, -200, 201, 10 ** 99, -(10 ** 99),
]
# for each kind of argument its error, and values that do not have the form
KINDS = {
    "lot": (InvalidLot, COMMON + [0, 1, [], [3, 1], [1] * 201]),
    "row": (InvalidRow, COMMON + [0, 1, (), (3, 1), [1] * 201]),
    "positive": (InvalidNumber, COMMON + [0, (), [], (3, 1), [1], [1] * 201]),
    "count": (InvalidNumber, COMMON + [(), [], (3, 1), [1], [1] * 201]),
    "values": (InvalidList, [value for value in COMMON if value not in ([0], [1] * 200 + [0])] + [0, 1, (), (3, 1)]),
    "picks": (InvalidPicks, [None, True, "", "1", 0, 1, 10 ** 99, (), (1,), [], [True], [None], ["1"], [[1]], [0, 0]]),
    "rule": (InvalidOption, COMMON + [0, 1, (), [], (3, 1), [1], "Dullest", ["dullest"], ("sharpest",)]),
}
# for each function its arguments: the name, the kind, a value with which the call succeeds
CALLS = {
    lots.make_lot: [("values", "values", [1, 3, 0])],
    lots.steel: [("lot", "lot", (3, 1))],
    lots.top_sum: [("lot", "lot", (3, 1)), ("count", "count", 0)],
    lots.capacity: [("lot", "lot", (3, 1)), ("need", "positive", 200)],
    lots.count_from: [("lot", "lot", ()), ("need", "positive", 1)],
    lots.combine: [("first", "lot", (3, 1)), ("second", "lot", (2,))],
    lots.remove: [("lot", "lot", (3, 1)), ("tools", "lot", (1,))],
    work.choices: [("lot", "lot", (3, 1)), ("need", "positive", 2)],
    work.use: [("lot", "lot", (3, 1)), ("tool", "positive", 3), ("need", "positive", 2)],
    work.walk: [("lot", "lot", (3, 1)), ("row", "row", [2]), ("picks", "picks", [3])],
    work.work: [("lot", "lot", (3, 1)), ("row", "row", [2]), ("by", "rule", "sharpest")],
    work.serve: [("lot", "lot", (3, 1)), ("row", "row", [2]), ("by", "rule", "dullest")],
    work.outcomes: [("lot", "lot", (3, 1)), ("row", "row", [2, 1])],
    work.ways: [("lot", "lot", (3, 1)), ("row", "row", [])],
    work.loss: [("lot", "lot", (3, 1)), ("need", "positive", 1), ("tool", "positive", 3)],
    work.regret: [("lot", "lot", (3, 1)), ("need", "positive", 1), ("tool", "positive", 3)],
}


def call(function, parameters, values, by_name):
    """Call with these values, by name as far as possible or by position as far as possible."""
    names = [name for name, _, _ in parameters]
    if by_name:
        return function(**dict(reversed(list(zip(names, values)))))
    named = {name: value for name, value in zip(names, values) if name == "by"}
    return function(*[value for name, value in zip(names, values) if name != "by"], **named)


class ArgumentsTest(unittest.TestCase):
    def check(self, error, function, parameters, values):
        for by_name in (False, True):
            given = copy.deepcopy(values)
            with self.assertRaises(KeenError, msg=f"{function.__name__}{tuple(values)}") as caught:
                call(function, parameters, given, by_name)
            self.assertIs(type(caught.exception), error, f"{function.__name__}{tuple(values)}")
            self.assertEqual(given, values)
            if error is InvalidPicks:
                self.assertIsNone(caught.exception.index)

    def test_each_function_is_listed(self):
        for module in (lots, work):
            found = [value for name, value in vars(module).items() if callable(value) and name[0] != "_"]
            own = [value for value in found if value.__module__ == module.__name__]
            for function in own:
                with self.subTest(function.__name__):
                    self.assertTrue(function in CALLS or function is lots.is_lot)

    def test_arguments_by_name_give_the_same_result(self):
        for function, parameters in CALLS.items():
            with self.subTest(function.__name__):
                values = [value for _, _, value in parameters]
                by_position = call(function, parameters, copy.deepcopy(values), False)
                by_name = call(function, parameters, copy.deepcopy(values), True)
                self.assertEqual(by_position, by_name)

    def test_arguments_are_not_modified(self):
        for function, parameters in CALLS.items():
            with self.subTest(function.__name__):
                values = [value for _, _, value in parameters]
                given = copy.deepcopy(values)
                call(function, parameters, given, False)
                self.assertEqual(given, values)

    def test_each_argument_in_turn(self):
        for function, parameters in CALLS.items():
            values = [value for _, _, value in parameters]
            for at, (name, kind, _) in enumerate(parameters):
                error, wrong_values = KINDS[kind]
                with self.subTest(function.__name__, name=name):
                    for wrong in wrong_values:
                        self.check(error, function, parameters, values[:at] + [wrong] + values[at + 1:])

    def test_the_first_wrong_argument_decides(self):
        for function, parameters in CALLS.items():
            values = [value for _, _, value in parameters]
            for at, (name, kind, _) in enumerate(parameters):
                error, wrong_values = KINDS[kind]
                for behind in range(at + 1, len(parameters)):
                    with self.subTest(function.__name__, name=name, behind=parameters[behind][0]):
                        for wrong in wrong_values:
                            for further in KINDS[parameters[behind][1]][1][::7]:
                                given = list(values)
                                given[at] = wrong
                                given[behind] = further
                                self.check(error, function, parameters, given)

    def test_all_wrong_at_once(self):
        for function, parameters in CALLS.items():
            error = KINDS[parameters[0][1]][0]
            for wrong in [None, True, "abc", -1, 10 ** 99, DEEP]:
                with self.subTest(function.__name__, wrong=wrong):
                    self.check(error, function, parameters, [wrong] * len(parameters))

    def test_the_form_comes_before_all_other_conditions(self):
        for function, values, error in [
            (lots.combine, [(200,), (0,)], InvalidLot),
            (lots.remove, [(), (1, 2)], InvalidLot),
            (work.use, [(3, 1), 2, 0], InvalidNumber),
            (work.use, [(3, 1), 201, 1], InvalidNumber),
            (work.walk, [(3, 1), [0], [9]], InvalidRow),
            (work.loss, [(3, 1), 0, 2], InvalidNumber),
            (work.regret, [(3, 1), 4, 201], InvalidNumber),
            (work.work, [(3, 1), [4, 0]], InvalidRow),
        ]:
            with self.subTest(function.__name__, values=values):
                with self.assertRaises(error):
                    function(*values)

    def test_rows_at_the_limit(self):
        for row in ([200] * 200, [1] * 200):
            self.assertEqual(work.serve((), row), ([0] * 200, ()))
            self.assertEqual(work.walk((), row, [0] * 200), ())
            for wrong in (row + [1], row[1:] + [0], row[1:] + [201], tuple(row)):
                with self.assertRaises(InvalidRow):
                    work.serve((), wrong)


if __name__ == "__main__":
    unittest.main()
