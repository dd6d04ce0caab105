"""The form of the code, as far as a short test can see it: sizes, characters, imports."""

import ast
import pathlib
import unittest

import fourread

FILES = sorted(pathlib.Path(fourread.__path__[0]).rglob("*.py"))
LIBRARY = {"heapq", "math", "itertools", "collections", "__future__"}


class FormTest(unittest.TestCase):
    def test_there_are_files(self):
        self.assertIn("__init__.py", [file.name for file in FILES])

    def test_lines_and_characters(self):
        for file in FILES:
            text = file.read_text(encoding="utf-8")
            lines = text.split("\n")
            self.assertLessEqual(len(lines), 400, file)
            self.assertLessEqual(max(len(line) for line in lines), 120, file)
            self.assertEqual([sign for sign in text if sign != "\n" and not " " <= sign <= "~"], [], file)

    def test_functions_are_small(self):
        for file in FILES:
            for node in ast.walk(ast.parse(file.read_text())):
                if isinstance(node, ast.FunctionDef):
                    self.assertLessEqual(node.end_lineno - node.lineno + 1, 40, (file, node.name))

    def test_imports(self):
        for file in FILES:
            for node in ast.walk(ast.parse(file.read_text())):
                self.assertNotIsInstance(node, ast.Import, file)
                if isinstance(node, ast.ImportFrom):
                    self.assertEqual(node.level, 0, file)
                    self.assertTrue(node.module in LIBRARY or node.module.startswith("fourread."), (file, node.module))


if __name__ == "__main__":
    unittest.main()
