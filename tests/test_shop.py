import copy
import random
import unittest

from keenlot.errors import (
    CannotDo, DuplicateName, InvalidLot, InvalidName, InvalidNumber, InvalidRow, KeenError, MissingTool, NothingToUndo,
    TooLarge, UnknownName,
)
from keenlot.shop import Shop
from tests.cases import Case
from tests.kinds import KINDS, WRONG_NAMES
from tests.model_shop import ModelShop

# for each method its arguments: the name, the kind, a value with which it succeeds in a shop of KEPT
KEPT = {"a": (3, 1), "b": (5, 2, 2), "empty": (), "full": (200,)}
METHODS = {
    "names": [],
    "lot_of": [("name", "name", "a")],
    "put": [("name", "name", "new"), ("lot", "lot", (4, 4))],
    "take": [("name", "name", "a")],
    "give": [("name", "name", "a"), ("lot", "lot", (4, 2))],
    "work": [("name", "name", "a"), ("row", "row", [2, 1])],
    "serve": [("name", "name", "a"), ("row", "row", [2, 4, 1])],
    "sharpen": [("name", "name", "a"), ("steps", "count", 3)],
    "lose": [("name", "name", "a"), ("count", "count", 1)],
    "absorb": [("first", "name", "a"), ("second", "name", "b")],
    "split_off": [("name", "name", "a"), ("count", "count", 1), ("new", "name", "new")],
    "undo": [],
    "totals": [],
}
# for each of them what it returns, and the names, the lots and the totals behind it
RESULTS = {
    "names": (["a", "b", "empty", "full"], KEPT, (213, 0, 0, 0)),
    "lot_of": ((3, 1), KEPT, (213, 0, 0, 0)),
    "put": (None, {**KEPT, "new": (4, 4)}, (221, 0, 0, 0)),
    "take": ((3, 1), {name: KEPT[name] for name in ("b", "empty", "full")}, (213, 0, 0, 4)),
    "give": (None, {**KEPT, "a": (4, 3, 2, 1)}, (219, 0, 0, 0)),
    "work": ([3, 1], {**KEPT, "a": (2,)}, (213, 0, 2, 0)),
    "serve": ([3, 0, 1], {**KEPT, "a": (2,)}, (213, 0, 2, 0)),
    "sharpen": (None, {**KEPT, "a": (6, 1)}, (213, 3, 0, 0)),
    "lose": (None, {**KEPT, "a": (1,)}, (213, 0, 0, 3)),
    "absorb": (None, {"a": (5, 3, 2, 2, 1), "empty": (), "full": (200,)}, (213, 0, 0, 0)),
    "split_off": (None, {**KEPT, "a": (1,), "new": (3,)}, (213, 0, 0, 0)),
    "undo": (None, {name: KEPT[name] for name in ("a", "b", "empty")}, (13, 0, 0, 0)),
    "totals": ((213, 0, 0, 0), KEPT, (213, 0, 0, 0)),
}
CHANGING = ["put", "take", "give", "work", "serve", "sharpen", "lose", "absorb", "split_off"]
# calls that are changes, but change nothing
IDLE = [
    ("give", ["a", ()]), ("work", ["a", []]), ("serve", ["a", []]), ("serve", ["a", [4, 200]]), ("sharpen", ["a", 0]),
    ("lose", ["a", 0]), ("lose", ["empty", 7]), ("serve", ["empty", [1, 1]]), ("give", ["full", ()]),
]
# calls that fail, with the error and its fields
FAILING = [
    ("lot_of", ["x"], UnknownName, {"name": "x"}),
    ("put", ["a", (1,)], DuplicateName, {"name": "a"}),
    ("put", ["empty", ()], DuplicateName, {"name": "empty"}),
    ("take", ["x"], UnknownName, {"name": "x"}),
    ("take", ["abcdefgh"], UnknownName, {"name": "abcdefgh"}),
    ("give", ["x", (1,)], UnknownName, {"name": "x"}),
    ("give", ["x", (200,)], UnknownName, {"name": "x"}),
    ("give", ["a", (197,)], TooLarge, {}),
    ("give", ["full", (1,)], TooLarge, {}),
    ("give", ["a", (1,) * 59], TooLarge, {}),
    ("work", ["x", [1]], UnknownName, {"name": "x"}),
    ("work", ["x", [200] * 200], UnknownName, {"name": "x"}),
    ("work", ["a", [3, 1, 3, 1]], CannotDo, {"index": 2, "lot": (2,), "day": None}),
    ("work", ["empty", [1]], CannotDo, {"index": 0, "lot": (), "day": None}),
    ("serve", ["x", [1]], UnknownName, {"name": "x"}),
    ("sharpen", ["x", 1], UnknownName, {"name": "x"}),
    ("sharpen", ["x", 200], UnknownName, {"name": "x"}),
    ("sharpen", ["a", 197], TooLarge, {}),
    ("sharpen", ["full", 1], TooLarge, {}),
    ("lose", ["x", 1], UnknownName, {"name": "x"}),
    ("lose", ["x", 0], UnknownName, {"name": "x"}),
    ("absorb", ["x", "a"], UnknownName, {"name": "x"}),
    ("absorb", ["a", "x"], UnknownName, {"name": "x"}),
    ("absorb", ["x", "y"], UnknownName, {"name": "x"}),
    ("absorb", ["x", "x"], UnknownName, {"name": "x"}),
    ("absorb", ["a", "a"], UnknownName, {"name": "a"}),
    ("absorb", ["empty", "empty"], UnknownName, {"name": "empty"}),
    # two lots of 200 would be too large, but the name comes first
    ("absorb", ["full", "full"], UnknownName, {"name": "full"}),
    ("absorb", ["full", "x"], UnknownName, {"name": "x"}),
    ("absorb", ["full", "a"], TooLarge, {}),
    ("absorb", ["a", "full"], TooLarge, {}),
    ("split_off", ["x", 1, "new"], UnknownName, {"name": "x"}),
    ("split_off", ["x", 1, "a"], UnknownName, {"name": "x"}),
    ("split_off", ["x", 200, "x"], UnknownName, {"name": "x"}),
    ("split_off", ["a", 1, "b"], DuplicateName, {"name": "b"}),
    ("split_off", ["a", 1, "a"], DuplicateName, {"name": "a"}),
    ("split_off", ["a", 3, "b"], DuplicateName, {"name": "b"}),
    ("split_off", ["a", 200, "a"], DuplicateName, {"name": "a"}),
    ("split_off", ["a", 3, "new"], MissingTool, {"tool": None}),
    ("split_off", ["a", 200, "new"], MissingTool, {"tool": None}),
    ("split_off", ["empty", 1, "new"], MissingTool, {"tool": None}),
]


def new_shop():
    shop = Shop()
    for name, lot in KEPT.items():
        shop.put(name, lot)
    return shop


def state(shop):
    return {name: shop.lot_of(name) for name in shop.names()}, shop.totals()


def values_of(method):
    return [copy.deepcopy(value) for _, _, value in METHODS[method]]


class ShopCase(Case):
    def check_steel(self, shop):
        added, sharpened, performed, removed = shop.totals()
        kept = sum(sum(shop.lot_of(name)) for name in shop.names())
        self.assertEqual(kept, added + sharpened - performed - removed)

    def check_fails(self, shop, method, values, error, fields):
        before = state(shop)
        raised = self.raised(error, getattr(shop, method), *values)
        for field, value in fields.items():
            self.assertEqual(getattr(raised, field), value, (method, values))
        self.assertEqual(state(shop), before)


class MethodsTest(ShopCase):
    def test_examples(self):
        shop = Shop()
        self.assertIsNone(shop.put("a", (3, 1)))
        self.assertIsNone(shop.split_off("a", 1, "b"))
        self.assertEqual(shop.work("b", [2, 1]), [3, 2])
        self.assertEqual([shop.names(), shop.lot_of("b"), shop.totals()], [["a", "b"], (1,), (4, 0, 2, 0)])
        self.raised(NothingToUndo, Shop().undo)

    def test_a_new_shop(self):
        self.assertEqual((Shop().names(), Shop().totals()), ([], (0, 0, 0, 0)))
        for method, parameters in METHODS.items():
            if parameters and method != "put":
                self.check_fails(Shop(), method, values_of(method), UnknownName, {"name": "a"})

    def test_each_method(self):
        for method, (returned, lots, totals) in RESULTS.items():
            with self.subTest(method):
                shop = new_shop()
                self.assertEqual(getattr(shop, method)(*values_of(method)), returned)
                self.assertEqual(state(shop), (lots, totals))
                self.check_steel(shop)

    def test_each_method_by_name(self):
        for method, (returned, lots, totals) in RESULTS.items():
            with self.subTest(method):
                shop = new_shop()
                named = {name: value for name, _, value in reversed(METHODS[method])}
                self.assertEqual(getattr(shop, method)(**named), returned)
                self.assertEqual(state(shop), (lots, totals))

    def test_each_method_that_fails(self):
        for method, values, error, fields in FAILING:
            with self.subTest(method, values=values):
                shop = new_shop()
                self.check_fails(shop, method, values, error, fields)
                # the failed call is no change: the one before it is undone
                shop.undo()
                self.assertEqual(shop.names(), ["a", "b", "empty"])
                self.assertEqual(shop.totals(), (13, 0, 0, 0))

    def test_names(self):
        shop = Shop()
        for name in ["z", "a", "abcdefgh", "zzzzzzzz", "m", "aa", "b", "ba"]:
            shop.put(name, (1,))
        self.assertEqual(shop.names(), ["a", "aa", "abcdefgh", "b", "ba", "m", "z", "zzzzzzzz"])
        for wrong in WRONG_NAMES + ["", "abcdefghi"]:
            self.check_fails(shop, "put", [wrong, (1,)], InvalidName, {})
            self.check_fails(shop, "lot_of", [wrong], InvalidName, {})
        for letter in "abcdefghijklmnopqrstuvwxyz":
            self.assertIsNone(Shop().put(letter, ()))
            self.assertIsNone(Shop().put(letter * 8, ()))

    def test_a_name_that_is_taken_and_put_again(self):
        shop = Shop()
        shop.put("a", (3, 1))
        self.assertEqual(shop.take("a"), (3, 1))
        self.check_fails(shop, "lot_of", ["a"], UnknownName, {"name": "a"})
        self.check_fails(shop, "take", ["a"], UnknownName, {"name": "a"})
        shop.put("a", (2,))
        self.assertEqual(state(shop), ({"a": (2,)}, (6, 0, 0, 4)))
        shop.put("b", (1,))
        shop.absorb("a", "b")
        shop.split_off("a", 1, "b")
        self.assertEqual(state(shop), ({"a": (1,), "b": (2,)}, (7, 0, 0, 4)))
        shop.take("b")
        shop.split_off("a", 0, "b")
        self.assertEqual(state(shop), ({"a": (1,), "b": ()}, (7, 0, 0, 6)))
        self.check_steel(shop)

    def test_the_empty_lot(self):
        shop = Shop()
        shop.put("a", ())
        self.assertEqual(state(shop), ({"a": ()}, (0, 0, 0, 0)))
        self.assertEqual(shop.serve("a", [1, 2]), [0, 0])
        self.assertEqual(shop.work("a", []), [])
        shop.lose("a", 5)
        shop.sharpen("a", 3)
        self.assertEqual(state(shop), ({"a": (3,)}, (0, 3, 0, 0)))
        self.assertEqual(shop.work("a", [1, 1, 1]), [3, 2, 1])
        self.assertEqual(state(shop), ({"a": ()}, (0, 3, 3, 0)))
        self.assertEqual(shop.take("a"), ())
        self.assertEqual(state(shop), ({}, (0, 3, 3, 0)))

    def test_split_off(self):
        for count, lot, moved in [
            (0, (5, 3, 3, 1), ()), (1, (3, 3, 1), (5,)), (2, (3, 1), (5, 3)), (3, (1,), (5, 3, 3)),
            (4, (), (5, 3, 3, 1)),
        ]:
            shop = Shop()
            shop.put("a", (5, 3, 3, 1))
            self.assertIsNone(shop.split_off("a", count, "b"))
            self.assertEqual(state(shop), ({"a": lot, "b": moved}, (12, 0, 0, 0)))
            shop.absorb("a", "b")
            self.assertEqual(state(shop), ({"a": (5, 3, 3, 1)}, (12, 0, 0, 0)))
            self.check_fails(shop, "split_off", ["a", 5, "b"], MissingTool, {"tool": None})

    def test_absorb(self):
        shop = new_shop()
        shop.absorb("empty", "full")
        self.assertEqual(state(shop)[0], {"a": (3, 1), "b": (5, 2, 2), "empty": (200,)})
        shop.put("full", ())
        shop.absorb("empty", "full")
        self.assertEqual(state(shop), ({"a": (3, 1), "b": (5, 2, 2), "empty": (200,)}, (213, 0, 0, 0)))
        shop.absorb("b", "a")
        self.assertEqual(state(shop), ({"b": (5, 3, 2, 2, 1), "empty": (200,)}, (213, 0, 0, 0)))

    def test_the_dullest_tool_performs(self):
        shop = new_shop()
        self.assertEqual(shop.work("b", [1, 2, 3]), [2, 2, 5])
        self.assertEqual(shop.lot_of("b"), (4, 1, 1))
        self.assertEqual(shop.serve("b", [2, 9, 1, 1, 1, 4]), [4, 0, 1, 1, 3, 0])
        self.assertEqual(shop.lot_of("b"), (2,))
        self.assertEqual(shop.totals(), (213, 0, 7, 0))

    def test_lots_at_the_limits(self):
        shop = new_shop()
        shop.give("a", (196,))
        self.assertEqual(shop.lot_of("a"), (196, 3, 1))
        shop.sharpen("empty", 200)
        self.assertEqual(shop.lot_of("empty"), (200,))
        shop.put("many", (1,) * 58)
        shop.give("many", (2, 2))
        self.assertEqual(shop.lot_of("many"), (2, 2) + (1,) * 58)
        self.check_fails(shop, "give", ["many", (1,)], TooLarge, {})
        shop.lose("many", 200)
        self.assertEqual(shop.totals(), (213 + 196 + 62, 200, 0, 62))
        self.check_steel(shop)

    def test_shops_are_apart(self):
        first, second = Shop(), Shop()
        first.put("a", (3,))
        second.put("a", (4, 2))
        first.sharpen("a", 1)
        self.assertEqual((state(first), state(second)), (({"a": (4,)}, (3, 1, 0, 0)), ({"a": (4, 2)}, (6, 0, 0, 0))))
        second.undo()
        self.assertEqual((first.names(), second.names()), (["a"], []))
        self.raised(NothingToUndo, second.undo)
        first.undo()

    def test_many_names_and_changes(self):
        letters = "abcdefghij"
        names = [one + other + third for one in letters for other in letters for third in letters]
        shop = Shop()
        for name in reversed(names):
            shop.put(name, (2, 1))
        self.assertEqual(shop.names(), names)
        for _ in range(3):
            for name in names:
                shop.sharpen(name, 1)
        self.assertEqual(shop.totals(), (3000, 3000, 0, 0))
        self.check_steel(shop)
        for _ in range(3500):
            shop.undo()
        self.assertEqual(shop.names(), names[500:])
        self.assertEqual(shop.totals(), (1500, 0, 0, 0))
        for _ in range(500):
            shop.undo()
        self.raised(NothingToUndo, shop.undo)


class UndoTest(ShopCase):
    def test_each_changing_method(self):
        for method in CHANGING:
            with self.subTest(method):
                shop = new_shop()
                before = state(shop)
                getattr(shop, method)(*values_of(method))
                self.assertNotEqual(state(shop), before)
                self.assertIsNone(shop.undo())
                self.assertEqual(state(shop), before)
                shop.undo()
                self.assertEqual(shop.names(), ["a", "b", "empty"])

    def test_changes_that_change_nothing(self):
        for method, values in IDLE:
            with self.subTest(method, values=values):
                shop = new_shop()
                shop.sharpen("b", 2)
                before = state(shop)
                getattr(shop, method)(*values)
                self.assertEqual(state(shop), before)
                shop.undo()
                self.assertEqual(state(shop), before)
                shop.undo()
                self.assertEqual(state(shop), (KEPT, (213, 0, 0, 0)))

    def test_put_and_take_of_the_empty_lot(self):
        shop = Shop()
        shop.put("a", ())
        shop.take("a")
        shop.undo()
        self.assertEqual(state(shop), ({"a": ()}, (0, 0, 0, 0)))
        shop.undo()
        self.assertEqual(state(shop), ({}, (0, 0, 0, 0)))
        self.raised(NothingToUndo, shop.undo)

    def test_split_off_of_none_and_all(self):
        for count in (0, 2):
            shop = new_shop()
            shop.split_off("a", count, "new")
            shop.undo()
            self.assertEqual(state(shop), (KEPT, (213, 0, 0, 0)))
            # the name is free again
            shop.put("new", (7,))

    def test_several_in_a_row(self):
        shop = Shop()
        states = [state(shop)]
        for method, values in [
            ("put", ["a", (3, 1)]), ("put", ["b", (2,)]), ("sharpen", ["a", 0]), ("split_off", ["a", 1, "c"]),
            ("work", ["c", [1]]), ("absorb", ["b", "c"]), ("serve", ["b", [9]]), ("give", ["a", (4,)]), ("take", ["a"]),
            ("put", ["a", ()]), ("absorb", ["a", "b"]), ("lose", ["a", 1]), ("take", ["a"]),
        ]:
            getattr(shop, method)(*values)
            states.append(state(shop))
            self.check_steel(shop)
        while len(states) > 1:
            self.assertEqual(state(shop), states.pop())
            self.assertIsNone(shop.undo())
            self.check_steel(shop)
        self.assertEqual(state(shop), states[0])
        for _ in range(3):
            self.raised(NothingToUndo, shop.undo)
            self.assertEqual(state(shop), states[0])

    def test_with_other_calls_between(self):
        shop = Shop()
        shop.put("a", (3, 1))
        shop.sharpen("a", 2)
        shop.undo()
        shop.lot_of("a")
        shop.names()
        shop.totals()
        shop.lose("a", 1)
        self.check_fails(shop, "work", ["a", [2]], CannotDo, {"index": 0, "lot": (1,)})
        self.assertEqual(state(shop), ({"a": (1,)}, (4, 0, 0, 3)))
        shop.undo()
        self.assertEqual(state(shop), ({"a": (3, 1)}, (4, 0, 0, 0)))
        # the undone sharpening does not come back, nor does undo undo itself
        shop.undo()
        self.assertEqual(state(shop), ({}, (0, 0, 0, 0)))
        self.raised(NothingToUndo, shop.undo)
        shop.put("a", (2,))
        shop.undo()
        self.raised(NothingToUndo, shop.undo)
        self.assertEqual(state(shop), ({}, (0, 0, 0, 0)))

    def test_a_name_that_is_kept_again(self):
        shop = Shop()
        shop.put("a", (3, 1))
        shop.take("a")
        shop.put("a", (5,))
        shop.take("a")
        lots = [{}, {"a": (5,)}, {}, {"a": (3, 1)}, {}]
        totals = [(9, 0, 0, 9), (9, 0, 0, 4), (4, 0, 0, 4), (4, 0, 0, 0), (0, 0, 0, 0)]
        for kept, total in zip(lots, totals):
            self.assertEqual(state(shop), (kept, total))
            if shop.totals() != (0, 0, 0, 0):
                shop.undo()


class ModelTest(ShopCase):
    """Long runs of calls, compared with a shop that keeps every state."""

    NAMES = ["a", "b", "c", "abcdefgh"]
    LOTS = [(), (1,), (3, 1), (5, 3, 3, 1), (60, 40), (1,) * 25, (200,)]
    ROWS = [[], [1], [2, 1], [3, 3, 1], [1] * 9, [50, 1, 50], [200]]

    def arguments(self, chance, method):
        kinds = {"name": self.NAMES, "lot": self.LOTS, "row": self.ROWS, "count": [0, 1, 2, 3, 30, 150, 200]}
        return [copy.deepcopy(chance.choice(kinds[kind])) for _, kind, _ in METHODS[method]]

    def test_long_runs(self):
        for seed in range(40):
            chance = random.Random(seed)
            # few calls of undo in some runs, many in others
            methods = [name for name in METHODS if name != "undo"] + ["undo"] * (1 + seed % 5) + ["put"] * 3
            shop, model = Shop(), ModelShop()
            for _ in range(300):
                method = chance.choice(methods)
                values = self.arguments(chance, method)
                expected, failed = self.outcome(getattr(model, method), values)
                found, raised = self.outcome(getattr(shop, method), values)
                self.assertEqual((found, raised is None), (expected, failed is None), (seed, method, values))
                if raised is not None:
                    self.assertIsInstance(raised, KeenError)
                self.assertEqual(state(shop), model.states[-1], (seed, method, values))
                self.check_steel(shop)
            while len(model.states) > 1:
                shop.undo()
                model.undo()
                self.assertEqual(state(shop), model.states[-1])
            self.raised(NothingToUndo, shop.undo)

    def outcome(self, function, values):
        try:
            return function(*values), None
        except (KeenError, KeyError, IndexError) as error:
            return None, error


class ArgumentsTest(ShopCase):
    def test_each_argument_in_turn(self):
        for method, parameters in METHODS.items():
            for at, (_, kind, _) in enumerate(parameters):
                error, wrong_values = KINDS[kind]
                shop = new_shop()
                for wrong in wrong_values:
                    values = values_of(method)
                    values[at] = wrong
                    self.check_fails(shop, method, values, error, {})

    def test_the_first_wrong_argument_decides(self):
        for method, parameters in METHODS.items():
            for at, (_, kind, _) in enumerate(parameters):
                error, wrong_values = KINDS[kind]
                shop = new_shop()
                for behind in range(at + 1, len(parameters)):
                    for wrong in wrong_values[::3]:
                        for further in KINDS[parameters[behind][1]][1][::5]:
                            values = values_of(method)
                            values[at], values[behind] = wrong, further
                            self.check_fails(shop, method, values, error, {})

    def test_the_form_comes_before_the_further_errors(self):
        for method, given, further, _ in FAILING:
            for at, (_, kind, _) in enumerate(METHODS[method]):
                error, wrong_values = KINDS[kind]
                shop = new_shop()
                with self.subTest(method, given=given, further=further, at=at):
                    for wrong in wrong_values[::4]:
                        self.check_fails(shop, method, given[:at] + [wrong] + given[at + 1:], error, {})

    def test_unknown_names_and_wrong_arguments(self):
        shop = new_shop()
        for method, values, error in [
            ("give", ["x", [1]], InvalidLot), ("work", ["x", [0]], InvalidRow), ("serve", ["x", (1,)], InvalidRow),
            ("sharpen", ["x", -1], InvalidNumber), ("lose", ["x", 201], InvalidNumber),
            ("absorb", ["x", "A"], InvalidName), ("absorb", ["A", "x"], InvalidName),
            ("split_off", ["x", True, "a"], InvalidNumber),
            ("split_off", ["x", 1, "a1"], InvalidName), ("split_off", ["x", None, ""], InvalidNumber),
            ("put", ["a", (1, 2)], InvalidLot), ("put", ["A", (1, 2)], InvalidName),
        ]:
            self.check_fails(shop, method, values, error, {})

    def test_returned_lists(self):
        shop = new_shop()
        names = shop.names()
        names.append("c")
        names.remove("a")
        self.assertEqual(shop.names(), ["a", "b", "empty", "full"])
        for method in ("work", "serve"):
            picks = getattr(shop, method)("b", [1, 1])
            picks.append(9)
            before = state(shop)
            picks.clear()
            self.assertEqual(state(shop), before)
        shop.undo()
        shop.undo()
        self.assertEqual(state(shop), (KEPT, (213, 0, 0, 0)))

    def test_arguments(self):
        for method in METHODS:
            shop = new_shop()
            values = values_of(method)
            getattr(shop, method)(*values)
            self.assertEqual(values, values_of(method))
        shop = new_shop()
        row = [2, 1]
        shop.work("b", row)
        before = state(shop)
        row.append(5)
        self.assertEqual(state(shop), before)

    def test_no_arguments(self):
        with self.assertRaises(TypeError):
            Shop({})
        for method in ("names", "undo", "totals"):
            with self.assertRaises(TypeError):
                getattr(new_shop(), method)("a")


if __name__ == "__main__":
    unittest.main()
