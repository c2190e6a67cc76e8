import ast
import builtins
import importlib
import inspect
import pathlib
import re
import unittest

from keenlot.shop import Shop

PACKAGE = pathlib.Path(__file__).resolve().parent.parent / "keenlot"
SIGNATURES = {
    "lots": {
        "is_lot": "(value)",
        "make_lot": "(values)",
        "steel": "(lot)",
        "top_sum": "(lot, count)",
        "capacity": "(lot, need)",
        "count_from": "(lot, need)",
        "combine": "(first, second)",
        "remove": "(lot, tools)",
    },
    "work": {
        "choices": "(lot, need)",
        "use": "(lot, tool, need)",
        "walk": "(lot, row, picks)",
        "work": "(lot, row, *, by='dullest')",
        "serve": "(lot, row, *, by='dullest')",
        "outcomes": "(lot, row)",
        "ways": "(lot, row)",
        "loss": "(lot, need, tool)",
        "regret": "(lot, need, tool)",
    },
    "compare": {
        "covers": "(first, second)",
        "gap": "(first, second)",
        "parting_row": "(first, second)",
        "least_cover": "(lots)",
        "greatest_covered": "(lots)",
    },
    "heaps": {
        "can_some": "(lot, heap)",
        "can_every": "(lot, heap)",
        "blocks": "(lot, heap)",
        "is_plan": "(lot, heap, value)",
        "best_left": "(lot, heap)",
        "worst_left": "(lot, heap)",
        "most_done": "(lot, heap)",
        "fewest_done": "(lot, heap)",
        "count_orders": "(heap)",
        "count_good_orders": "(lot, heap)",
    },
    "sharpening": {
        "sharpen": "(lot, steps, *, cap=None)",
        "steps_needed": "(lot, heap, *, order='every', cap=None)",
        "tools_needed": "(lot, heap, cap, *, order='every')",
        "least_lot": "(heap, cap)",
    },
    "keeping": {
        "tools_kept": "(lot, heap, *, order='every')",
        "tools_spared": "(lot, heap, *, order='every')",
        "lose": "(lot, count)",
        "run_events": "(lot, events)",
    },
    "days": {
        "through": "(lot, days, steps, *, cap=None)",
        "through_any": "(lot, days, steps, *, cap=None)",
        "even_steps": "(lot, days)",
    },
    "counting": {
        "covered_lots": "(lot)",
        "count_covered": "(lot)",
    },
    "books": {
        "allows": "(book, row)",
        "serves": "(lot, book)",
        "failing_row": "(lot, book)",
        "reduce_book": "(book)",
        "either": "(first, second)",
        "merge": "(first, second)",
        "limit_tasks": "(book, count)",
        "steps_for": "(lot, book)",
    },
}
SHOP = {
    "names": "(self)",
    "lot_of": "(self, name)",
    "put": "(self, name, lot)",
    "take": "(self, name)",
    "give": "(self, name, lot)",
    "work": "(self, name, row)",
    "serve": "(self, name, row)",
    "sharpen": "(self, name, steps)",
    "lose": "(self, name, count)",
    "absorb": "(self, first, second)",
    "split_off": "(self, name, count, new)",
    "undo": "(self)",
    "totals": "(self)",
}
ERRORS = [
    "KeenError", "InvalidLot", "InvalidRow", "InvalidNumber", "InvalidOption", "InvalidList",
    "InvalidDays", "InvalidEvents", "InvalidBook", "InvalidName", "TooLarge", "NothingToUndo",
    "InvalidPicks", "MissingTool", "CannotDo", "Impossible", "TooSharp", "UnknownName",
    "DuplicateName",
]


# of the builtins and of the methods of builtin values those that the language lists and the package has use for
BUILTINS = [
    "len", "range", "enumerate", "zip", "min", "max", "sum", "abs", "sorted", "reversed", "int", "str", "bool", "list",
    "tuple", "dict", "set", "isinstance", "any", "all", "ValueError",
]
METHODS = [
    "append", "clear", "copy", "count", "endswith", "extend", "find", "get", "index", "insert", "items", "join", "keys",
    "pop", "remove", "replace", "reverse", "setdefault", "sort", "split", "startswith", "strip", "update", "values",
]


def defined_in(name):
    tree = ast.parse((PACKAGE / f"{name}.py").read_text())
    return [node.name for node in tree.body if isinstance(node, (ast.FunctionDef, ast.ClassDef))]


class InterfaceTest(unittest.TestCase):
    def test_init_is_empty(self):
        self.assertEqual((PACKAGE / "__init__.py").read_bytes(), b"")

    def test_functions_stand_in_their_files(self):
        for module, signatures in SIGNATURES.items():
            for name in signatures:
                with self.subTest(module, name=name):
                    self.assertIn(name, defined_in(module))

    def test_errors_stand_in_their_file(self):
        self.assertEqual(sorted(defined_in("errors")), sorted(ERRORS))

    def test_shop(self):
        self.assertIn("Shop", defined_in("shop"))
        self.assertEqual(str(inspect.signature(Shop)), "()")
        for name, signature in SHOP.items():
            with self.subTest(name):
                self.assertIn(name, vars(Shop))
                self.assertEqual(str(inspect.signature(vars(Shop)[name])), signature)

    def test_signatures(self):
        for module, signatures in SIGNATURES.items():
            for name, signature in signatures.items():
                with self.subTest(module, name=name):
                    function = getattr(importlib.import_module(f"keenlot.{module}"), name)
                    self.assertEqual(str(inspect.signature(function)), signature)


def bound_at_module_level(tree):
    names = [node.name for node in tree.body if isinstance(node, (ast.FunctionDef, ast.ClassDef))]
    names = names + [alias.name for node in tree.body if isinstance(node, ast.ImportFrom) for alias in node.names]
    return names + [node.targets[0].id for node in tree.body if isinstance(node, ast.Assign)]


def bound_in(function):
    """The parameters and the local variables of a function, those of its comprehensions and lambdas too."""
    names = [node.id for node in ast.walk(function) if isinstance(node, ast.Name) and isinstance(node.ctx, ast.Store)]
    names = names + [node.arg for node in ast.walk(function) if isinstance(node, ast.arg)]
    return names + [node.name for node in ast.walk(function) if isinstance(node, ast.ExceptHandler) and node.name]


class FormTest(unittest.TestCase):
    def test_sizes_and_characters(self):
        for path in sorted(PACKAGE.rglob("*.py")):
            lines = path.read_text(encoding="utf-8").split("\n")
            with self.subTest(path.name):
                self.assertLessEqual(len(lines), 399)
                self.assertLessEqual(max(len(line) for line in lines), 120)
                self.assertTrue(all(" " <= sign <= "~" for line in lines for sign in line))

    def test_functions_are_short(self):
        for path in sorted(PACKAGE.rglob("*.py")):
            for node in ast.walk(ast.parse(path.read_text())):
                if isinstance(node, ast.FunctionDef):
                    with self.subTest(path.name, function=node.name):
                        self.assertLessEqual(node.end_lineno - node.lineno + 1, 40)

    def test_words_that_the_language_bars(self):
        words = r"\b(type|typing|enum|Enum|Flag|Generic|Protocol|ABC|namedtuple|open|input|law|register|elements)\b"
        barred = re.compile(words + r"|dataclass|overload|contextmanager|_wall")
        for path in sorted(PACKAGE.rglob("*.py")):
            with self.subTest(path.name):
                self.assertEqual([found.group() for found in barred.finditer(path.read_text())], [])

    def test_names(self):
        for path in sorted(PACKAGE.rglob("*.py")):
            tree = ast.parse(path.read_text())
            own = bound_at_module_level(tree)
            with self.subTest(path.name):
                self.assertEqual(len(own), len(set(own)))
                self.assertEqual([name for name in own if hasattr(builtins, name)], [])
            for function in [node for node in ast.walk(tree) if isinstance(node, ast.FunctionDef)]:
                local = bound_in(function)
                read = [node.id for node in ast.walk(function) if isinstance(node, ast.Name)]
                with self.subTest(path.name, function=function.name):
                    self.assertEqual([name for name in local if name in own or hasattr(builtins, name)], [])
                    self.assertEqual([name for name in read if name not in [*local, *own, *BUILTINS]], [])

    def test_imports_are_used(self):
        for path in sorted(PACKAGE.rglob("*.py")):
            tree = ast.parse(path.read_text())
            imported = [alias.name for node in tree.body if isinstance(node, ast.ImportFrom) for alias in node.names]
            read = [node.id for node in ast.walk(tree) if isinstance(node, ast.Name)]
            with self.subTest(path.name):
                self.assertEqual([name for name in imported if name not in read], [])

    def test_methods_of_values(self):
        for path in sorted(PACKAGE.rglob("*.py")):
            tree = ast.parse(path.read_text())
            own = [node.name for node in ast.walk(tree) if isinstance(node, ast.FunctionDef)]
            called = [node.func.attr for node in ast.walk(tree)
                      if isinstance(node, ast.Call) and isinstance(node.func, ast.Attribute)]
            with self.subTest(path.name):
                self.assertEqual([name for name in called if name not in [*own, *METHODS]], [])

    def test_imports_come_from_the_package(self):
        for path in sorted(PACKAGE.rglob("*.py")):
            for node in ast.walk(ast.parse(path.read_text())):
                with self.subTest(path.name):
                    self.assertNotIsInstance(node, ast.Import)
                    if isinstance(node, ast.ImportFrom):
                        self.assertTrue(node.module.startswith("keenlot."))
                        self.assertNotIn("*", [name.name for name in node.names])


if __name__ == "__main__":
    unittest.main()
