"""Some rules of the language that can be seen without running the program."""

import ast
import os
import unittest
import warnings

TOP = os.path.join(os.path.dirname(os.path.dirname(os.path.abspath(__file__))), "treerooms")
LIBRARY = ("math", "heapq", "itertools", "collections")
TAKE_LISTS = ("any", "all", "min", "max", "sum", "sorted")


def files():
    """The path and the text of each file of the package."""
    found = []
    for folder, _, names in os.walk(TOP):
        if not folder.endswith("__pycache__"):
            found.extend(os.path.join(folder, name) for name in names)
    texts = []
    for path in sorted(found):
        with open(path, encoding="utf-8") as file:
            texts.append((path, file.read()))
    return texts


class Language(unittest.TestCase):
    def test_files_and_folders(self):
        for path, _ in files():
            self.assertTrue(path.endswith(".py"), path)
            self.assertEqual(path, path.lower())
            self.assertTrue(os.path.exists(os.path.join(os.path.dirname(path), "__init__.py")), path)

    def test_sizes_and_signs(self):
        for path, text in files():
            lines = text.split("\n")
            self.assertLessEqual(len(lines), 400, path)
            for number, line in enumerate(lines, start=1):
                self.assertLessEqual(len(line), 120, (path, number))
                self.assertTrue(all(" " <= sign <= "~" for sign in line), (path, number))
            for node in ast.walk(ast.parse(text)):
                if isinstance(node, ast.FunctionDef):
                    self.assertLessEqual(node.end_lineno - node.lineno, 39, (path, node.name))

    def test_no_warnings(self):
        with warnings.catch_warnings():
            warnings.simplefilter("error")
            for path, text in files():
                compile(text, path, "exec")

    def test_imports(self):
        for path, text in files():
            for node in ast.walk(ast.parse(text)):
                self.assertNotIsInstance(node, ast.Import, path)
                if isinstance(node, ast.ImportFrom):
                    self.assertEqual(node.level, 0, path)
                    self.assertTrue(node.module in LIBRARY or node.module.startswith("treerooms."), (path, node.module))

    def test_what_compares_is_not_told_by_generator_expressions(self):
        for path, text in files():
            for node in ast.walk(ast.parse(text)):
                if isinstance(node, ast.Call) and isinstance(node.func, ast.Name) and node.func.id in TAKE_LISTS:
                    self.assertFalse([part for part in node.args if isinstance(part, ast.GeneratorExp)], (path, node.lineno))


if __name__ == "__main__":
    unittest.main()
