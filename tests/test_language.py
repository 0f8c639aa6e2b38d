"""Some rules of the language that a careless change breaks first."""

import ast
import builtins
import re
import unittest
from pathlib import Path

PACKAGE = Path(__file__).resolve().parent.parent / "dragtold"
LIBRARY = {"heapq", "math", "itertools", "collections", "__future__"}
BARRED = {
    "register", "mro", "elements", "open", "input", "law", "type", "typing", "enum", "namedtuple", "dataclass",
    "abstractmethod", "global", "async", "await", "print", "hash", "id", "eval", "exec", "frozenset"}


def package_files():
    return sorted(path for path in PACKAGE.rglob("*") if "__pycache__" not in path.parts)


class LanguageTest(unittest.TestCase):
    def test_files(self):
        for path in package_files():
            self.assertRegex(path.name, r"^[a-z_]+\.py$")
            text = path.read_text(encoding="utf-8")
            self.assertTrue(all(sign == "\n" or " " <= sign <= "~" for sign in text), path.name)
            lines = text.split("\n")
            self.assertLessEqual(len(lines), 399, path.name)
            self.assertLessEqual(max(map(len, lines)), 120, path.name)

    def test_functions_are_small(self):
        for path in package_files():
            for node in ast.walk(ast.parse(path.read_text())):
                if isinstance(node, ast.FunctionDef):
                    self.assertLessEqual(node.end_lineno - node.lineno + 1, 40, (path.name, node.name))

    def test_imports_are_by_name_and_from_where_the_name_is_defined(self):
        for path in package_files():
            for node in ast.walk(ast.parse(path.read_text())):
                self.assertNotIsInstance(node, ast.Import, path.name)
                if isinstance(node, ast.ImportFrom) and node.module not in LIBRARY:
                    folder, name = node.module.split(".")
                    self.assertEqual(folder, "dragtold")
                    self.assertTrue((PACKAGE / (name + ".py")).exists(), name)
                    defined = (PACKAGE / (name + ".py")).read_text()
                    for alias in node.names:
                        pattern = rf"^(def {alias.name}\(|class {alias.name}[(:]|{alias.name} = )"
                        self.assertRegex(defined, re.compile(pattern, re.MULTILINE))

    def test_local_names_are_not_those_of_imports_classes_and_builtins(self):
        for path in package_files():
            tree = ast.parse(path.read_text())
            taken = set(dir(builtins))
            for node in tree.body:
                if isinstance(node, ast.ImportFrom):
                    taken.update(alias.name for alias in node.names)
                elif isinstance(node, ast.ClassDef):
                    taken.add(node.name)
            for node in ast.walk(tree):
                if isinstance(node, ast.Name) and isinstance(node.ctx, ast.Store):
                    self.assertNotIn(node.id, taken, path.name)
                elif isinstance(node, ast.arg):
                    self.assertNotIn(node.arg, taken, path.name)

    def test_dicts_of_modules_are_only_asked(self):
        """Lists and dicts at module level are indexed, or stand behind in; tuples are free."""
        for path in package_files():
            tree = ast.parse(path.read_text())
            tables = {node.targets[0].id for node in tree.body
                      if isinstance(node, ast.Assign) and isinstance(node.value, (ast.Dict, ast.List))}
            asked = set()
            for node in ast.walk(tree):
                if isinstance(node, ast.Subscript):
                    asked.add(id(node.value))
                elif isinstance(node, ast.Compare):
                    asked.update(id(each) for each in node.comparators)
            for node in ast.walk(tree):
                if isinstance(node, ast.Name) and isinstance(node.ctx, ast.Load) and node.id in tables:
                    self.assertIn(id(node), asked, (path.name, node.id))

    def test_no_floats_no_decorators_of_functions_and_no_barred_names(self):
        for path in package_files():
            for node in ast.walk(ast.parse(path.read_text())):
                self.assertNotIsInstance(node, (ast.Div, ast.AsyncFunctionDef, ast.Global), path.name)
                if isinstance(node, ast.Constant):
                    self.assertNotIsInstance(node.value, (float, complex), path.name)
                for field in ("id", "attr", "name", "arg"):
                    self.assertNotIn(getattr(node, field, None), BARRED, path.name)


if __name__ == "__main__":
    unittest.main()
