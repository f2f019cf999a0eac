"""Tests of the form of the package: sizes, characters, and what is imported."""

import ast
import pathlib
import unittest

PACKAGE = pathlib.Path(__file__).resolve().parent.parent / "noticeways"
FILES = sorted(PACKAGE.rglob("*.py"))


class FormTest(unittest.TestCase):

    def test_files_are_there(self):
        names = [one.name for one in FILES]
        for name in ("__init__", "errors", "notices", "readings", "truths", "comparing", "cases", "asking", "texts",
                     "brackets", "books", "plain", "values", "desks"):
            self.assertIn(name + ".py", names)

    def test_sizes(self):
        for file in FILES:
            lines = file.read_text(encoding="utf-8").split("\n")
            with self.subTest(file=file.name):
                self.assertLess(len(lines), 400)
                self.assertLessEqual(max(map(len, lines)), 120)

    def test_functions_are_short(self):
        for file in FILES:
            for node in ast.walk(ast.parse(file.read_text(encoding="utf-8"))):
                if isinstance(node, ast.FunctionDef):
                    with self.subTest(file=file.name, function=node.name):
                        self.assertLessEqual(node.end_lineno - node.lineno + 1, 40)

    def test_characters(self):
        for file in FILES:
            text = file.read_bytes()
            with self.subTest(file=file.name):
                self.assertTrue(all(code == 10 or 32 <= code <= 126 for code in text))

    def test_imports_are_of_the_package(self):
        allowed = ("heapq", "math", "itertools", "collections")
        for file in FILES:
            for node in ast.walk(ast.parse(file.read_text(encoding="utf-8"))):
                with self.subTest(file=file.name):
                    self.assertNotIsInstance(node, ast.Import)
                    if isinstance(node, ast.ImportFrom):
                        self.assertEqual(node.level, 0)
                        self.assertTrue(node.module.startswith("noticeways.") or node.module in allowed)


if __name__ == "__main__":
    unittest.main()
