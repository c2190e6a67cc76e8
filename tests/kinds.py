"""Kinds of arguments: the error of each, and values that do not have its form."""

from keenlot.errors import (
    InvalidBook, InvalidDays, InvalidEvents, InvalidList, InvalidLot, InvalidName, InvalidNumber, InvalidOption,
    InvalidPicks, InvalidRow,
)

DEEP = [[[[[[[[[(3, 1)]]]]]]]]]
COMMON = [
    None, True, False, "", "abc", "dull", "(3, 1)", "[1]", (None,), (True,), (1, True), ((),), ((3, 1),), ((3,), [1]),
    [None], [True], [1, True], [False], [[]], [[1]], [[1], [2, [3]]], [(1,)], ["1"], ("1",), DEEP, (DEEP, DEEP),
    (1, 2), (0,), (3, 0), (-1,), (201,), (200, 1), (1,) * 61, (10 ** 99,), [0], [1, -1], [-1], [201], [10 ** 99],
    [1] * 200 + [0], -1, -200, 201, 10 ** 99, -(10 ** 99),
]


def without(values, *right):
    """The values that stay wrong where those in right are none."""
    return [value for value in values if value not in right]


# no lists of 1 to 20 rows or heaps
WRONG_ROWS = [
    0, 1, (), [], ([1],), [1], [(1,)], [[1], (1,)], [[1], None], [None, [1]], [[1], "1"], [[1], 1], [[0]], [[-1]],
    [[201]], [[1], [2, 0]], [[True]], [[1, None]], [["1"]], [[[1]]], [[1]] * 21, [[]] * 21, [[1] * 201],
    [[1]] * 19 + [[0]], [[1]] * 19 + [[1] * 201],
]
WRONG_NAMES = [
    "abcdefghi", "a" * 1000, "A", "aB", "Abc", "a1", "1", "a b", " a", "a ", "a_", "_", "-", "a.b", "`", "{", "a{", "@",
    "\n", "a\n", "\u00e9", "a\u00df", "\u0430", "\u00aa", "\x00", "a\x00", "\U0001f527",
]
# for each kind of argument its error, and values that do not have the form
KINDS = {
    "lot": (InvalidLot, COMMON + [0, 1, [], [3, 1], [1] * 201]),
    "row": (InvalidRow, COMMON + [0, 1, (), (3, 1), [1] * 201]),
    "positive": (InvalidNumber, COMMON + [0, (), [], (3, 1), [1], [1] * 201]),
    "count": (InvalidNumber, COMMON + [(), [], (3, 1), [1], [1] * 201]),
    "values": (InvalidList, without(COMMON, [0], [1] * 200 + [0]) + [0, 1, (), (3, 1)]),
    "picks": (InvalidPicks, [None, True, "", "1", 0, 1, 10 ** 99, (), (1,), [], [True], [None], ["1"], [[1]], [0, 0]]),
    "rule": (InvalidOption, COMMON + [0, 1, (), [], (3, 1), [1], "Dullest", ["dullest"], ("sharpest",)]),
    "order": (InvalidOption, COMMON + [0, 1, (), [], (3, 1), [1], "Every", ["every"], ("some",), "dullest"]),
    # unlike for any other number, None is no wrong cap
    "cap": (InvalidNumber, COMMON[1:] + [0, (), [], (3, 1), [1], [1] * 201]),
    "lots": (InvalidList, without(COMMON, [(1,)]) + [0, 1, (), [], [(1,), [1]], [(1,), (1, 2)], [()] * 21, [(True,)]]),
    "events": (InvalidEvents, COMMON + [0, 1, (), [("task", 0)], [["task", 1]], [("lose", 1)] * 201, (("task", 1),)]),
    "days": (InvalidDays, without(COMMON, [[]], [[1]]) + WRONG_ROWS),
    "book": (InvalidBook, without(COMMON, [[]], [[1]]) + WRONG_ROWS),
    "name": (InvalidName, without(COMMON, "abc", "dull") + [0, 1, (), [], ["abc"], ("abc",)] + WRONG_NAMES),
    "any": (None, []),
}
