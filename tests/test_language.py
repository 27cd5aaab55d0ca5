"""Rules of the language subset that a test can see: files, sizes, characters, imports and numbers."""

import ast
import unittest
from pathlib import Path

PACKAGE = Path(__file__).resolve().parent.parent / "dueways"
FILES = sorted(PACKAGE.rglob("*.py"))
LIBRARY = {"heapq", "math", "itertools", "collections"}


class TestLanguage(unittest.TestCase):
    def trees(self):
        """Return the list of (file, text, tree) of all files of the package."""
        self.assertGreater(len(FILES), 0)
        return [(path.name, path.read_text("utf-8"), ast.parse(path.read_text("utf-8"))) for path in FILES]

    def test_files_and_lines(self):
        for name, text, _ in self.trees():
            lines = text.split("\n")
            self.assertLessEqual(len(lines), 400, name)
            for number, line in enumerate(lines, start=1):
                self.assertLessEqual(len(line), 120, (name, number))
                self.assertTrue(all(" " <= sign <= "~" for sign in line), (name, number))

    def test_sizes_of_functions(self):
        for name, _, tree in self.trees():
            for node in ast.walk(tree):
                if isinstance(node, ast.FunctionDef):
                    self.assertLessEqual(node.end_lineno - node.lineno + 1, 40, (name, node.name))

    def test_imports(self):
        for name, _, tree in self.trees():
            for node in ast.walk(tree):
                self.assertNotIsInstance(node, ast.Import, name)
                if isinstance(node, ast.ImportFrom):
                    self.assertIn(node, tree.body, name)
                    self.assertEqual(node.level, 0, name)
                    root, _, rest = node.module.partition(".")
                    self.assertTrue(node.module in LIBRARY or (root == "dueways" and rest), (name, node.module))

    def test_no_floats_and_no_signs_of_formats(self):
        for name, _, tree in self.trees():
            for node in ast.walk(tree):
                self.assertNotIsInstance(node, (ast.Div, ast.Global, ast.AsyncFunctionDef, ast.GeneratorExp), name)
                if isinstance(node, ast.Constant):
                    self.assertNotIsInstance(node.value, (float, complex), name)
                    if isinstance(node.value, str):
                        self.assertNotIn("%", node.value, name)


if __name__ == "__main__":
    unittest.main()
