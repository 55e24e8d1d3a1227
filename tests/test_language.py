"""The rules of the language that a look at the files of the package can tell."""

import ast
import builtins
import os
import re
import unittest

from tests.interface import INTERFACE

PACKAGE = os.path.join(os.path.dirname(os.path.dirname(os.path.abspath(__file__))), "gonetold")
LIBRARY = ("heapq", "math", "itertools", "collections")
BUILTINS = set("""len range enumerate zip min max sum abs sorted reversed int str bool bytes list tuple dict set
    isinstance ord repr any all divmod pow getattr hasattr setattr iter next map super property staticmethod classmethod
    Exception ValueError TypeError KeyError IndexError LookupError ZeroDivisionError ArithmeticError OverflowError
    RuntimeError NotImplementedError AttributeError StopIteration NotImplemented""".split())
METHODS = set("""append clear copy count endswith extend find get index insert isalnum isalpha isdigit islower isspace
    isupper items join keys ljust lower lstrip partition pop remove replace reverse rfind rjust rpartition rsplit rstrip
    setdefault split splitlines startswith strip update upper values zfill bit_length add discard sort isascii""".split())
BARRED = (ast.Global, ast.AsyncFunctionDef, ast.AsyncFor, ast.AsyncWith, ast.Await)


def files():
    """The names of the files of the package, without those that Python makes."""
    return sorted(name for name in os.listdir(PACKAGE) if name != "__pycache__")


def text_of(name):
    with open(os.path.join(PACKAGE, name), encoding="utf-8", newline="") as file:
        return file.read()


def own_names(trees):
    """What the files of the package define: functions, classes, methods, and the names that are assigned."""
    names = set()
    for tree in trees:
        for node in ast.walk(tree):
            if isinstance(node, (ast.FunctionDef, ast.ClassDef)):
                names.add(node.name)
            elif isinstance(node, ast.arg):
                names.add(node.arg)
            elif isinstance(node, ast.Name) and isinstance(node.ctx, ast.Store):
                names.add(node.id)
    return names


class LanguageTest(unittest.TestCase):

    def setUp(self):
        self.texts = {name: text_of(name) for name in files()}
        self.trees = {name: ast.parse(text) for name, text in self.texts.items()}

    def nodes(self, kind):
        for name, tree in self.trees.items():
            for node in ast.walk(tree):
                if isinstance(node, kind):
                    yield name, node

    def test_files_and_characters(self):
        for name, text in self.texts.items():
            self.assertRegex(name, "^[a-z_]+[.]py$")
            self.assertEqual([sign for sign in text if sign != "\n" and not " " <= sign <= "~"], [], name)

    def test_sizes(self):
        for name, text in self.texts.items():
            lines = text.split("\n")
            self.assertLess(len(lines), 400, name)
            self.assertEqual([line for line in lines if len(line) > 120], [], name)
        for name, node in self.nodes(ast.FunctionDef):
            self.assertLessEqual(node.end_lineno - node.lineno + 1, 40, (name, node.name))

    def test_imports(self):
        self.assertEqual(list(self.nodes(ast.Import)), [])
        for name, node in self.nodes(ast.ImportFrom):
            self.assertEqual(node.level, 0, name)
            if node.module not in LIBRARY:
                self.assertTrue(node.module.startswith("gonetold."), (name, node.module))
                defined = ast.parse(text_of(node.module.split(".")[1] + ".py")).body
                for own in node.names:
                    self.assertIsNone(own.asname)
                    self.assertIn(own.name, [top.name for top in defined if hasattr(top, "name")], name)

    def test_no_two_files_import_from_each_other(self):
        ahead = {name: set() for name in self.trees}
        for name, node in self.nodes(ast.ImportFrom):
            if node.module not in LIBRARY:
                ahead[name].add(node.module.split(".")[1] + ".py")
        while ahead:
            free = [name for name in ahead if not ahead[name] & set(ahead)]
            self.assertNotEqual(free, [], sorted(ahead))
            for name in free:
                del ahead[name]

    def test_imported_names_are_used_and_mean_nothing_else(self):
        for name, tree in self.trees.items():
            imported = [own.name for node in tree.body if isinstance(node, ast.ImportFrom) for own in node.names]
            used = {node.id for node in ast.walk(tree) if isinstance(node, ast.Name)}
            self.assertEqual([own for own in imported if own not in used], [], name)
            self.assertEqual([own for own in imported if own in own_names([tree])], [], name)

    def test_functions_are_used_or_listed(self):
        listed = {name for text in INTERFACE.values() for name, _ in re.findall(r"(\w+)\(([^)]*)\)", text)}
        used = {node.id for _, node in self.nodes(ast.Name)} | {node.attr for _, node in self.nodes(ast.Attribute)}
        for name, node in self.nodes(ast.FunctionDef):
            self.assertIn(node.name, listed | used | {"__init__"}, name)

    def test_module_level(self):
        for name, tree in self.trees.items():
            for node in tree.body:
                kinds = (ast.FunctionDef, ast.ClassDef, ast.ImportFrom, ast.Assign)
                docstring = isinstance(node, ast.Expr) and isinstance(node.value, ast.Constant)
                self.assertTrue(docstring or isinstance(node, kinds), (name, node.lineno))

    def test_statements_and_values(self):
        for name, node in self.nodes(BARRED):
            self.fail((name, node.lineno))
        for name, node in self.nodes(ast.Constant):
            self.assertNotIsInstance(node.value, (float, complex), name)
            self.assertNotIn("%", node.value if isinstance(node.value, str) else "", name)
        for name, node in self.nodes(ast.BinOp):
            self.assertNotIsInstance(node.op, ast.Div, name)

    def test_names(self):
        defined = own_names(self.trees.values())
        imported = {own.name for _, line in self.nodes(ast.ImportFrom) for own in line.names}
        known = defined | BUILTINS | imported
        for name, node in self.nodes(ast.Name):
            self.assertIn(node.id, known, (name, node.lineno))
        for own in defined:
            self.assertFalse(own.startswith("__") and own != "__init__", own)
            # What begins with "_" is no builtin, though Python's doctest puts "_" there.
            self.assertFalse(own[0] != "_" and hasattr(builtins, own), own)

    def test_methods(self):
        own = own_names(self.trees.values())
        for name, node in self.nodes(ast.Call):
            if isinstance(node.func, ast.Attribute):
                self.assertIn(node.func.attr, METHODS | own, (name, node.lineno))

    def test_sets_are_not_kept(self):
        for name, node in self.nodes((ast.For, ast.comprehension)):
            self.assertNotIsInstance(node.iter, (ast.Set, ast.SetComp), name)
            called = node.iter.func.id if isinstance(node.iter, ast.Call) and hasattr(node.iter.func, "id") else ""
            self.assertNotEqual(called, "set", name)


if __name__ == "__main__":
    unittest.main()
