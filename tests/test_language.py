"""Some rules of the language that a careless change breaks first."""

import ast
import re
import unittest
from pathlib import Path

PACKAGE = Path(__file__).resolve().parent.parent / "dragtold"
LIBRARY = {"heapq", "math", "itertools", "collections", "__future__"}
BARRED = {
    "register", "mro", "elements", "open", "input", "law", "type", "typing", "enum", "namedtuple", "dataclass",
    "abstractmethod", "global", "async", "await", "print", "hash", "id", "eval", "exec", "frozenset"}


def package_files():
    return sorted(path for path in PACKAGE.rglob("*") if "__pycache__" not in path.parts)


class LanguageTest(unittest.TestCase):
    def test_files(self):
        for path in package_files():
            self.assertRegex(path.name, r"^[a-z_]+\.py$")
            text = path.read_text(encoding="utf-8")
            self.assertTrue(all(sign == "\n" or " " <= sign <= "~" for sign in text), path.name)
            lines = text.split("\n")
            self.assertLessEqual(len(lines), 399, path.name)
            self.assertLessEqual(max(map(len, lines)), 120, path.name)

    def test_functions_are_small(self):
        for path in package_files():
            for node in ast.walk(ast.parse(path.read_text())):
                if isinstance(node, ast.FunctionDef):
                    self.assertLessEqual(node.end_lineno - node.lineno + 1, 40, (path.name, node.name))

    def test_imports_are_by_name_and_from_where_the_name_is_defined(self):
        for path in package_files():
            for node in ast.walk(ast.parse(path.read_text())):
                self.assertNotIsInstance(node, ast.Import, path.name)
                if isinstance(node, ast.ImportFrom) and node.module not in LIBRARY:
                    folder, name = node.module.split(".")
                    self.assertEqual(folder, "dragtold")
                    self.assertTrue((PACKAGE / (name + ".py")).exists(), name)
                    defined = (PACKAGE / (name + ".py")).read_text()
                    for alias in node.names:
                        pattern = rf"^(def {alias.name}\(|class {alias.name}[(:]|{alias.name} = )"
                        self.assertRegex(defined, re.compile(pattern, re.MULTILINE))

    def test_no_floats_no_decorators_of_functions_and_no_barred_names(self):
        for path in package_files():
            for node in ast.walk(ast.parse(path.read_text())):
                self.assertNotIsInstance(node, (ast.Div, ast.AsyncFunctionDef, ast.Global), path.name)
                if isinstance(node, ast.Constant):
                    self.assertNotIsInstance(node.value, (float, complex), path.name)
                for field in ("id", "attr", "name", "arg"):
                    self.assertNotIn(getattr(node, field, None), BARRED, path.name)


if __name__ == "__main__":
    unittest.main()
