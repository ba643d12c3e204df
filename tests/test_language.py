"""The form of the package: those rules of the language that can be read off the code."""

import ast
import builtins
import unittest
from pathlib import Path

PACKAGE = Path(__file__).parent.parent / "villagelines"
FILES = sorted(PACKAGE.rglob("*.py"))
TREES = {path: ast.parse(path.read_text()) for path in FILES}
FUNCTIONS = (ast.FunctionDef, ast.Lambda)
# Running examples leaves `_` among the builtins.
ALL_BUILTINS = set(dir(builtins)) - {"_"}
BUILTINS = {"len", "range", "enumerate", "zip", "min", "max", "sum", "abs", "sorted", "reversed", "int", "str", "bool",
            "list", "tuple", "dict", "set", "isinstance", "ord", "repr", "any", "all", "divmod", "map", "super", "iter",
            "staticmethod", "classmethod", "property", "ValueError"}
UNUSED = {"register", "mro", "elements", "open", "input", "law", "version_info", "type", "typing", "enum", "id", "vars",
          "dir", "eval", "exec", "exit", "gc", "help", "license", "locals", "globals", "os", "quit", "sys", "compile",
          "_outside", "_record", "_cold", "_member_names", "_tuplegetter", "_written_out"}
# What the package takes from outside.
LIBRARY = {"math": {"gcd"}}
# Generator expressions do not go with a class that has `__eq__`, the rest goes with nothing.
PARTS = (ast.GeneratorExp, ast.AnnAssign, ast.Global, ast.AsyncFunctionDef, ast.Await, ast.Div, ast.Import)


def name_of(path):
    """The full name of the module in the file."""
    parts = path.relative_to(PACKAGE.parent).with_suffix("").parts
    return ".".join(parts[:-1] if parts[-1] == "__init__" else parts)


def parts_of(tree, kind):
    """All parts of this kind in the tree."""
    return [node for node in ast.walk(tree) if isinstance(node, kind)]


def found(kind):
    """All parts of this kind in the package, each with its place."""
    return [((name_of(path), getattr(node, "lineno", 0)), node)
            for path, tree in TREES.items() for node in parts_of(tree, kind)]


def imported_in(tree):
    """The names that a module imports."""
    return {one.name for node in parts_of(tree, ast.ImportFrom) for one in node.names}


def defined_in(tree):
    """The names that a module defines itself."""
    made = {node.name for node in tree.body if isinstance(node, (ast.FunctionDef, ast.ClassDef))}
    return made | {target.id for node in tree.body if isinstance(node, ast.Assign) for target in node.targets}


def local_names(function):
    """The parameters and the local variables of a function."""
    names = {node.arg for node in parts_of(function, ast.arg)}
    return names | {node.id for node in parts_of(function, ast.Name) if isinstance(node.ctx, ast.Store)}


class TestForm(unittest.TestCase):

    def test_makers_are_called_of_own_bases_alone(self):
        for place, own in found(ast.ClassDef):
            called = [node.value.id for node in parts_of(own, ast.Attribute) if node.attr == "__init__"]
            self.assertLessEqual(set(called), {base.id for base in own.bases}, place)

    def test_sizes(self):
        self.assertLessEqual(len(FILES), 100)
        for path in FILES:
            rows = path.read_text().split("\n")
            self.assertLessEqual(len(rows), 400, path)
            self.assertLessEqual(max(len(row) for row in rows), 120, path)
        for place, function in found(ast.FunctionDef):
            self.assertLess(function.end_lineno - function.lineno, 40, place)

    def test_characters(self):
        for path in FILES:
            self.assertEqual({sign for sign in path.read_text() if not " " <= sign <= "~"} - {"\n"}, set(), path)
        self.assertEqual([place for place, node in found(ast.Constant) if "%" in str(node.value)], [])

    def test_parts_that_do_not_stand_here(self):
        self.assertEqual([(place, node) for place, node in found(PARTS)], [])
        self.assertEqual([place for place, node in found(ast.Attribute) if node.attr == "sort"], [])

    def test_names(self):
        for path, tree in TREES.items():
            own = imported_in(tree) | defined_in(tree)
            self.assertEqual({name for name in own if name in UNUSED | ALL_BUILTINS}, set(), path)
            for function in parts_of(tree, FUNCTIONS):
                names = local_names(function)
                wrong = {name for name in names if name in own or name in UNUSED | ALL_BUILTINS}
                self.assertEqual(wrong, set(), (path, function.lineno))

    def test_builtins(self):
        used = {node.id for _, node in found(ast.Name) if node.id in ALL_BUILTINS}
        self.assertLessEqual(used, BUILTINS)

    def test_imports_name_the_file_that_defines_the_name(self):
        defined = {name_of(path): defined_in(tree) for path, tree in TREES.items()} | LIBRARY
        for place, node in found(ast.ImportFrom):
            self.assertLessEqual({one.name for one in node.names}, defined[node.module], place)
            self.assertEqual({one.asname for one in node.names}, {None}, place)

    def test_no_file_imports_itself_through_others(self):
        waiting = {name_of(path): {node.module for node in parts_of(tree, ast.ImportFrom)}
                   for path, tree in TREES.items()}
        while waiting:
            free = [name for name, wanted in waiting.items() if not wanted & set(waiting)]
            self.assertNotEqual(free, [], waiting)
            waiting = {name: wanted for name, wanted in waiting.items() if name not in free}

    def test_no_name_of_a_generator_is_used_twice(self):
        names = [function.name for _, function in found(ast.FunctionDef)]
        for place, function in found(ast.FunctionDef):
            if parts_of(function, (ast.Yield, ast.YieldFrom)):
                self.assertEqual(names.count(function.name), 1, place)
