"""Some rules of the language that can be seen without running the program."""

import ast
import os
import unittest
import warnings

from tests import rules

TOP = os.path.join(os.path.dirname(os.path.dirname(os.path.abspath(__file__))), "treerooms")
LIBRARY = ("math", "heapq", "itertools", "collections")
TAKE_LISTS = ("any", "all", "min", "max", "sum", "sorted")


def files():
    """The path and the text of each file of the package."""
    found = []
    for folder, _, names in os.walk(TOP):
        if not folder.endswith("__pycache__"):
            found.extend(os.path.join(folder, name) for name in names)
    texts = []
    for path in sorted(found):
        with open(path, encoding="utf-8") as file:
            texts.append((path, file.read()))
    return texts


class Language(unittest.TestCase):
    def test_files_and_folders(self):
        for path, _ in files():
            self.assertTrue(path.endswith(".py"), path)
            self.assertEqual(path, path.lower())
            self.assertTrue(os.path.exists(os.path.join(os.path.dirname(path), "__init__.py")), path)

    def test_sizes_and_signs(self):
        for path, text in files():
            lines = text.split("\n")
            self.assertLessEqual(len(lines), 400, path)
            for number, line in enumerate(lines, start=1):
                self.assertLessEqual(len(line), 120, (path, number))
                self.assertTrue(all(" " <= sign <= "~" for sign in line), (path, number))
            for node in ast.walk(ast.parse(text)):
                if isinstance(node, ast.FunctionDef):
                    self.assertLessEqual(node.end_lineno - node.lineno, 39, (path, node.name))

    def test_no_warnings(self):
        with warnings.catch_warnings():
            warnings.simplefilter("error")
            for path, text in files():
                compile(text, path, "exec")

    def test_imports(self):
        for path, text in files():
            for node in ast.walk(ast.parse(text)):
                self.assertNotIsInstance(node, ast.Import, path)
                if isinstance(node, ast.ImportFrom):
                    self.assertEqual(node.level, 0, path)
                    self.assertTrue(node.module in LIBRARY or node.module.startswith("treerooms."), (path, node.module))

    def test_what_compares_is_not_told_by_generator_expressions(self):
        for path, text in files():
            for node in ast.walk(ast.parse(text)):
                if isinstance(node, ast.Call) and isinstance(node.func, ast.Name) and node.func.id in TAKE_LISTS:
                    self.assertFalse([part for part in node.args if isinstance(part, ast.GeneratorExp)], (path, node.lineno))

    def test_what_is_walked_is_not_changed(self):
        for path, text in files():
            self.assertEqual(rules.changed_while_walked(ast.parse(text)), [], path)
            self.assertEqual(rules.changed_by_itself(ast.parse(text)), [], path)

    def test_names_builtins_and_methods(self):
        own = {
            node.name for _, text in files() for node in ast.walk(ast.parse(text)) if isinstance(node, ast.FunctionDef)
        }
        for path, text in files():
            tree = ast.parse(text)
            self.assertEqual(rules.names_with_other_meanings(tree), [], path)
            self.assertEqual(rules.unknown_builtins(tree), [], path)
            self.assertEqual(rules.unknown_methods(tree, own), [], path)

    def test_expressions(self):
        for path, text in files():
            tree = ast.parse(text)
            self.assertEqual(rules.barred_expressions(tree), [], path)
            self.assertEqual(rules.kept_iterators(tree), [], path)
            self.assertEqual(rules.shadowing_comprehensions(tree), [], path)
            self.assertEqual(rules.starred_values(tree), [], path)
            self.assertEqual(rules.changing_readers(tree), [], path)
            self.assertEqual(rules.values_by_names(tree), [], path)

    def test_no_name_is_a_property_and_something_else(self):
        trees = [ast.parse(text) for _, text in files()]
        nodes = [node for tree in trees for node in ast.walk(tree)]
        methods = [node for node in nodes if isinstance(node, ast.FunctionDef)]
        read = {one.name for one in methods if [part for part in one.decorator_list if getattr(part, "id", "") == "property"]}
        stored = {node.attr for node in nodes if isinstance(node, ast.Attribute) and isinstance(node.ctx, ast.Store)}
        self.assertEqual(read & stored, set())
        within = {part.name for node in nodes if isinstance(node, ast.ClassDef) for part in node.body if part in methods}
        self.assertEqual((within - read) & stored, set())
        plain = {part.name for node in nodes if isinstance(node, ast.ClassDef) for part in node.body if part in methods and not part.decorator_list}
        self.assertEqual(plain & read, set())
        generators = {one.name for one in methods if [part for part in ast.walk(one) if isinstance(part, (ast.Yield, ast.YieldFrom))]}
        self.assertEqual(sorted(one.name for one in methods if one.name in generators), sorted(generators))

    def test_no_file_imports_itself_by_others(self):
        wanted = {}
        for path, text in files():
            name = os.path.relpath(path, os.path.dirname(TOP))[:-3].replace(os.sep, ".")
            wanted[name] = {node.module for node in ast.walk(ast.parse(text)) if isinstance(node, ast.ImportFrom)}
        while wanted:
            free = [name for name in wanted if not wanted[name] & set(wanted)]
            self.assertTrue(free, wanted)
            for name in free:
                del wanted[name]


class Rules(unittest.TestCase):
    """The rules themselves find what breaks them."""

    def test_changes_of_what_is_walked(self):
        for lines in (
            "for x in xs: xs.append(x)", "for k, x in enumerate(xs): xs[k] = x", "for x in self.xs: self.xs.pop()",
            "for x in xs.values(): del xs[x]", "for x in a or xs: xs.clear()", "for x in here.xs: there.xs.append(x)",
            "for row in rows:\n  more = []\n  for x in old: more.append(x)\n  old = more", "ys = xs\nfor x in xs: ys.extend([x])",
            "[xs.pop() for x in xs]",
        ):
            tree = ast.parse("def told(self, xs, rows, a, here, there):\n " + lines.replace("\n", "\n "))
            self.assertTrue(rules.changed_while_walked(tree), lines)
        for lines in ("for x in xs: ys.append(x)", "for x in list(xs): xs.pop()", "for x in xs[:]: xs.append(x)"):
            self.assertEqual(rules.changed_while_walked(ast.parse("def told(xs, ys):\n " + lines)), [], lines)

    def test_changes_by_what_is_changed(self):
        for lines in (
            "xs[k] += xs[k - 1]", "xs += xs", "xs.extend(xs)", "self.xs.extend(self.xs)", "here.xs += there.xs", "xs[k].extend(xs[0])",
            "xs[k] |= xs[0]", "xs.update(xs)", "ys = xs\nys += xs", "xs += ys or xs", "xs += xs[0] if k else ys", "for row in xs: xs[0] += row",
            "for k, row in enumerate(xs): xs[k].extend(row)", "xs.extend(reversed(xs))",
        ):
            tree = ast.parse("def told(self, xs, ys, k, here, there):\n " + lines.replace("\n", "\n "))
            self.assertTrue(rules.changed_by_itself(tree), lines)
        for lines in (
            "xs[k] = xs[k] + xs[k - 1]", "xs.extend(list(xs))", "xs += xs[:]", "xs[k] += 1", "xs[k] += ys[k]", "xs.extend([x for x in xs])",
            "for row in ys: xs += row", "xs.append(xs[0])",
        ):
            self.assertEqual(rules.changed_by_itself(ast.parse("def told(xs, ys, k):\n " + lines.replace("\n", "\n "))), [], lines)

    def test_other_rules(self):
        for rule, lines in (
            (rules.names_with_other_meanings, "def told(hash): pass"), (rules.names_with_other_meanings, "def told(): next = 1"),
            (rules.names_with_other_meanings, "from a.b import c\ndef told():\n for c in []: pass"),
            (rules.unknown_builtins, "def told(): return hash(1)"), (rules.unknown_builtins, "def told(box): return box.register"),
            (rules.barred_expressions, "def told(): return 1 / 2"), (rules.barred_expressions, "def told(): return 1.5"),
            (rules.barred_expressions, "def told(a, b): return a is b"), (rules.barred_expressions, "def told(a):\n for x in set(a): pass"),
            (rules.barred_expressions, "def told(): return '%'"), (rules.kept_iterators, "def told(a, b): return zip(a, b)"),
            (rules.kept_iterators, "def told(a): return a.items()"),
            (rules.shadowing_comprehensions, "def told(a, b): return [[b for b in c] for c in a]"),
            (rules.shadowing_comprehensions, "def told(a): return [[c for c in c] for c in a]"),
            (rules.starred_values, "def told(a): return one(*a[1:])"), (rules.starred_values, "def told(a): return one(*list(a))"),
            (rules.changing_readers, "class One:\n @property\n def two(self):\n  self.a = 1"),
            (rules.changing_readers, "class One:\n def __len__(self):\n  self.a[0] = 1"), (rules.values_by_names, "ONE = 1\nTWO = (ONE, 2)"),
        ):
            self.assertTrue(rule(ast.parse(lines)), lines)
        self.assertTrue(rules.unknown_methods(ast.parse("def told(xs): xs.sort()"), ()))


if __name__ == "__main__":
    unittest.main()
