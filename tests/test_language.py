"""The rules of the language that a test can ask for at once: files, sizes, characters and imports."""

import ast
import os
import unittest

TOP = os.path.dirname(os.path.dirname(os.path.abspath(__file__)))
PACKAGE = os.path.join(TOP, "purepowers")
LIBRARY = ("heapq", "math", "itertools", "collections")


def sources():
    """The pairs of file name and text of the package."""
    found = []
    for name in sorted(os.listdir(PACKAGE)):
        if name.endswith(".py"):
            with open(os.path.join(PACKAGE, name), encoding="utf-8") as file:
                found.append((name, file.read()))
    return found


class Language(unittest.TestCase):
    def test_files(self):
        names = [name for name in os.listdir(PACKAGE) if name != "__pycache__"]
        self.assertIn("__init__.py", names)
        for name in names:
            self.assertRegex(name, r"\A[a-z0-9_]+\.py\Z")
            self.assertFalse(name.startswith("test"))

    def test_sizes(self):
        for name, text in sources():
            with self.subTest(name):
                lines = text.splitlines()
                self.assertLessEqual(len(lines), 399)
                self.assertLessEqual(max([len(line) for line in lines], default=0), 120)
                for node in ast.walk(ast.parse(text)):
                    if isinstance(node, ast.FunctionDef):
                        self.assertLessEqual(node.end_lineno - node.lineno + 1, 40, node.name)

    def test_characters(self):
        for name, text in sources():
            with self.subTest(name):
                self.assertEqual([char for char in text if char != "\n" and not " " <= char <= "~"], [])

    def test_imports(self):
        for name, text in sources():
            with self.subTest(name):
                for node in ast.walk(ast.parse(text)):
                    self.assertNotIsInstance(node, ast.Import)
                    if isinstance(node, ast.ImportFrom):
                        self.assertEqual(node.level, 0)
                        self.assertTrue(node.module.startswith("purepowers.") or node.module in LIBRARY, node.module)


if __name__ == "__main__":
    unittest.main()
