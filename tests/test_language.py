"""Tests of rules of the language that the package is written in, as far as a file shows them."""

import ast
import builtins
import re
import unittest
import warnings
from pathlib import Path

PACKAGE = Path(__file__).resolve().parent.parent / "switchhills"

# Each module needs only those listed ahead of it.
MODULES = [
    "limits", "errors", "boards", "rankings", "notes", "peaks", "squares", "ways", "counts",
    "asking", "walks", "desks", "checker", "certificates", "console",
]

BUILTINS = set(
    "len range enumerate zip min max sum abs sorted reversed int str bool bytes list tuple dict "
    "set frozenset isinstance ord repr any all divmod pow getattr hasattr setattr map iter next "
    "type super property classmethod staticmethod Exception ValueError TypeError KeyError "
    "IndexError LookupError ZeroDivisionError ArithmeticError OverflowError RuntimeError "
    "NotImplementedError AttributeError StopIteration NotImplemented".split()
)

LIBRARY = {"heapq", "math", "itertools", "collections"}


def trees():
    for path in sorted(PACKAGE.glob("*.py")):
        text = path.read_text(encoding="utf-8")
        with warnings.catch_warnings():
            warnings.simplefilter("error")
            yield path.name, text, ast.parse(text)


def bound_names(tree):
    """The names that a module binds at its top."""
    for node in tree.body:
        if isinstance(node, ast.ImportFrom):
            yield from (alias.asname or alias.name for alias in node.names)
        elif isinstance(node, (ast.FunctionDef, ast.ClassDef)):
            yield node.name
        elif isinstance(node, ast.Assign):
            yield from (target.id for target in node.targets)


class Files(unittest.TestCase):
    def test_the_folder_holds_plain_files_alone(self):
        for path in PACKAGE.iterdir():
            if path.name != "__pycache__":
                self.assertTrue(path.is_file())
                self.assertRegex(path.name, r"\A(__init__|[a-z][a-z0-9_]*)\.py\Z")
        self.assertTrue((PACKAGE / "__init__.py").is_file())

    def test_sizes_and_characters(self):
        for name, text, tree in trees():
            self.assertLessEqual(len(text.splitlines()), 399, name)
            self.assertEqual(re.findall(r"[^ -~\n]", text), [], name)
            for line in text.splitlines():
                self.assertLessEqual(len(line), 120, f"{name}: {line}")
            for node in ast.walk(tree):
                if isinstance(node, ast.FunctionDef):
                    lines = node.end_lineno - node.lineno + 1
                    self.assertLessEqual(lines, 40, f"{name}: {node.name}")


class Modules(unittest.TestCase):
    def test_only_plain_statements_at_the_top(self):
        for name, _, tree in trees():
            for index, node in enumerate(tree.body):
                docstring = isinstance(node, ast.Expr) and index == 0
                kinds = (ast.ImportFrom, ast.FunctionDef, ast.ClassDef, ast.Assign)
                self.assertTrue(docstring or isinstance(node, kinds), f"{name}:{node.lineno}")

    def test_each_name_is_bound_once_and_is_no_builtin(self):
        for name, _, tree in trees():
            names = list(bound_names(tree))
            self.assertEqual(len(names), len(set(names)), name)
            self.assertEqual([bound for bound in names if hasattr(builtins, bound)], [], name)

    def test_imports_come_from_the_file_that_defines_the_name(self):
        defined = {name[:-3]: set(bound_names(tree)) for name, _, tree in trees()}
        for name, _, tree in trees():
            for node in ast.walk(tree):
                self.assertNotIsInstance(node, ast.Import, name)
                if isinstance(node, ast.ImportFrom) and node.module not in LIBRARY:
                    package, _, module = node.module.partition(".")
                    self.assertEqual((package, node.level), ("switchhills", 0), name)
                    for alias in node.names:
                        self.assertIsNone(alias.asname)
                        self.assertIn(alias.name, defined[module], name)

    def test_a_module_needs_only_those_listed_ahead_of_it(self):
        for name, _, tree in trees():
            if name[:-3] in MODULES:
                ahead = MODULES[:MODULES.index(name[:-3])]
                for node in tree.body:
                    if isinstance(node, ast.ImportFrom) and node.module.startswith("switchhills."):
                        module = node.module.partition(".")[2]
                        self.assertIn(module, ahead, name)


class Expressions(unittest.TestCase):
    def test_builtins(self):
        for name, _, tree in trees():
            used = {node.id for node in ast.walk(tree) if isinstance(node, ast.Name)}
            barred = {word for word in used if hasattr(builtins, word)} - BUILTINS
            self.assertEqual(barred, set(), name)

    def test_no_floats_and_no_other_kinds_of_statements(self):
        barred = (ast.AsyncFunctionDef, ast.Await, ast.Div, ast.MatMult)
        for name, _, tree in trees():
            for node in ast.walk(tree):
                if isinstance(node, ast.Constant):
                    self.assertNotIsInstance(node.value, (float, complex), name)
                self.assertNotIsInstance(node, barred, name)

    def test_no_generator_expressions(self):
        # Classes of the package have `__eq__`: so `any`, `all`, `sum` and their kin take lists.
        for name, _, tree in trees():
            for node in ast.walk(tree):
                self.assertNotIsInstance(node, ast.GeneratorExp, name)

    def test_is_only_beside_none_true_and_false(self):
        for name, _, tree in trees():
            for node in ast.walk(tree):
                if isinstance(node, ast.Compare):
                    sides = [node.left, *node.comparators]
                    for at, operator in enumerate(node.ops):
                        if isinstance(operator, (ast.Is, ast.IsNot)):
                            constant = any(isinstance(side, ast.Constant) and side.value in (None, True, False)
                                           for side in sides[at:at + 2])
                            self.assertTrue(constant, f"{name}:{node.lineno}")

    def test_names_of_a_file_are_not_used_for_variables(self):
        for name, _, tree in trees():
            bound = {node.name for node in tree.body if isinstance(node, ast.ClassDef)}
            for node in tree.body:
                if isinstance(node, ast.ImportFrom):
                    bound.update(alias.name for alias in node.names)
            for node in ast.walk(tree):
                if isinstance(node, ast.arg):
                    self.assertNotIn(node.arg, bound, name)
                if isinstance(node, ast.Name) and not isinstance(node.ctx, ast.Load):
                    self.assertNotIn(node.id, bound, name)

    def test_decorators(self):
        for name, _, tree in trees():
            for node in ast.walk(tree):
                if isinstance(node, ast.FunctionDef):
                    for decorator in map(ast.unparse, node.decorator_list):
                        self.assertRegex(
                            decorator, r"\A(property|classmethod|staticmethod|\w+\.setter)\Z", name)


if __name__ == "__main__":
    unittest.main()
