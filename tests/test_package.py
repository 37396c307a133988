"""What is asked of the package's files: L1, L10, L14 and, for [1], no outside help."""

import ast
import unittest
from pathlib import Path

PACKAGE = Path(__file__).resolve().parent.parent / "sumsapart"
ALLOWED = ("heapq", "math", "itertools", "collections", "__future__")
BARRED = ("open", "input", "eval", "exec", "print", "__import__", "id", "hash", "globals")


def sources():
    return sorted(path for path in PACKAGE.rglob("*.py"))


class Files(unittest.TestCase):
    def test_there_are_only_python_files(self):
        for path in PACKAGE.rglob("*"):
            if path.is_file() and "__pycache__" not in path.parts:
                self.assertEqual(path.suffix, ".py", path)
        self.assertIn(PACKAGE / "__init__.py", sources())

    def test_sizes_and_characters(self):
        for path in sources():
            text = path.read_bytes().decode("ascii")
            self.assertLessEqual(len(text.splitlines()), 399, path)
            for line in text.split("\n"):
                self.assertLessEqual(len(line), 120, path)
                self.assertTrue(all(" " <= sign <= "~" for sign in line), path)

    def test_functions_are_small(self):
        for path in sources():
            for node in ast.walk(ast.parse(path.read_text())):
                if isinstance(node, ast.FunctionDef):
                    self.assertLessEqual(node.end_lineno - node.lineno + 1, 40, node.name)

    def test_no_clock_chance_or_file(self):
        for path in sources():
            for node in ast.walk(ast.parse(path.read_text())):
                if isinstance(node, ast.Name):
                    self.assertNotIn(node.id, BARRED, path)
                self.assertNotIsInstance(node, ast.Import, path)
                if isinstance(node, ast.ImportFrom):
                    self.assertEqual(node.level, 0, path)
                    self.assertIn(node.module.split(".")[0], ALLOWED + ("sumsapart",), path)


if __name__ == "__main__":
    unittest.main()
