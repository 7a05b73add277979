"""The form of the package's files, as far as a short test can tell it."""

import ast
import builtins
import pathlib
import re
import unittest

PACKAGE = pathlib.Path(__file__).resolve().parent.parent / "lastopen"
FILES = sorted(PACKAGE.rglob("*.py"))
BUILTINS = set("len range enumerate zip min max sum abs sorted reversed int str bool list tuple dict set isinstance "
               "ord repr any all divmod ValueError NotImplemented iter next".split())
DOUBLE = set("__init__ __eq__ __len__ __contains__ __and__ __or__ __invert__ __sub__ __le__ __lt__ __add__ "
             "__iadd__".split())
BARRED = re.compile(r"\b(type|typing|enum|Enum|Flag|Generic|Protocol|ABC|namedtuple)\b|dataclass|overload|%")
FORBIDDEN = (ast.Import, ast.Global, ast.AsyncFunctionDef, ast.Await, ast.Try, ast.GeneratorExp, ast.Div)


def nodes(path):
    return list(ast.walk(ast.parse(path.read_text(encoding="ascii"))))


def bound(path):
    """All names that are given a meaning in a file."""
    names = []
    for node in nodes(path):
        if isinstance(node, (ast.FunctionDef, ast.ClassDef)):
            names.append(node.name)
        elif isinstance(node, ast.arg):
            names.append(node.arg)
        elif isinstance(node, ast.Name) and isinstance(node.ctx, ast.Store):
            names.append(node.id)
    return names


class Form(unittest.TestCase):

    def test_files(self):
        found = sorted(path.name for path in PACKAGE.rglob("*") if "__pycache__" not in path.parts)
        self.assertEqual(found, sorted(path.name for path in FILES))
        for path in FILES:
            text = path.read_text(encoding="ascii")
            lines = text.split("\n")
            self.assertLess(len(lines), 400, path.name)
            self.assertLessEqual(max(len(line) for line in lines), 120, path.name)
            self.assertNotIn("\t", text, path.name)
            self.assertIsNone(BARRED.search(text), path.name)

    def test_functions_are_short(self):
        for path in FILES:
            for node in nodes(path):
                if isinstance(node, ast.FunctionDef):
                    self.assertLessEqual(node.end_lineno - node.lineno + 1, 40, node.name)
                    self.assertEqual(node.decorator_list, [], node.name)

    def test_statements(self):
        for path in FILES:
            for node in nodes(path):
                self.assertNotIsInstance(node, FORBIDDEN, path.name)

    def test_imports(self):
        for path in FILES:
            for node in nodes(path):
                if isinstance(node, ast.ImportFrom):
                    self.assertEqual(node.level, 0)
                    first, file = node.module.split(".")
                    self.assertEqual(first, "lastopen")
                    own = bound(PACKAGE / (file + ".py"))
                    self.assertTrue(all(alias.name in own and alias.asname is None for alias in node.names))

    def test_all_imports_are_used(self):
        for path in FILES:
            used = {node.id for node in nodes(path) if isinstance(node, ast.Name)}
            for node in nodes(path):
                if isinstance(node, ast.ImportFrom):
                    self.assertLessEqual({alias.name for alias in node.names}, used, path.name)

    def test_names(self):
        barred = {"register", "mro", "elements", "open", "input", "law", "version_info", *dir(builtins)}
        for path in FILES:
            imported = {alias.name for node in nodes(path) if isinstance(node, ast.ImportFrom) for alias in node.names}
            for name in bound(path):
                self.assertFalse(name in imported or name in barred, (path.name, name))
                self.assertTrue(name in DOUBLE or name[0] != "_", (path.name, name))
            for node in nodes(path):
                if isinstance(node, ast.Name) and node.id in dir(builtins):
                    self.assertIn(node.id, BUILTINS, path.name)

    def test_methods_and_attributes_have_unlike_names(self):
        methods, attributes = set(), set()
        for path in FILES:
            for node in nodes(path):
                if isinstance(node, ast.ClassDef):
                    methods |= {part.name for part in node.body if isinstance(part, ast.FunctionDef)}
                elif isinstance(node, ast.Attribute) and isinstance(node.ctx, ast.Store):
                    attributes.add(node.attr)
        self.assertEqual(methods & attributes, set())


if __name__ == "__main__":
    unittest.main()
