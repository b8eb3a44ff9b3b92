"""What of the form of the package can be counted: files, lines, characters, imports, builtins."""

import ast
import builtins
import os
import unittest

import owedround

TOP = os.path.dirname(owedround.__file__)
LIBRARY = {
    "math": {"gcd", "lcm", "isqrt", "comb", "perm", "factorial"},
    "heapq": {"heappush", "heappop", "heapify", "heapreplace", "heappushpop"},
    "itertools": {"chain", "accumulate", "pairwise", "islice", "zip_longest"},
    "collections": {"defaultdict"},
}
BUILTINS = set(
    "len range enumerate zip min max sum abs sorted reversed int str bool bytes list tuple dict set "
    "frozenset isinstance ord repr any all divmod pow iter next map property classmethod staticmethod "
    "ValueError TypeError KeyError IndexError LookupError ZeroDivisionError ArithmeticError "
    "OverflowError RuntimeError NotImplemented".split()
)
EAGER = {"any", "all", "min", "max", "sum", "sorted"}


def files():
    found = []
    for folder, inner, names in os.walk(TOP):
        inner[:] = [name for name in inner if name != "__pycache__"]
        found += [os.path.join(folder, name) for name in names]
        if "__init__.py" not in names:
            found.append(os.path.join(folder, "no __init__"))
    return sorted(found)


def text_of(path):
    with open(path, encoding="utf-8") as told:
        return told.read()


class Form(unittest.TestCase):
    def each_node(self, *kinds):
        for path in files():
            for node in ast.walk(ast.parse(text_of(path))):
                if isinstance(node, kinds):
                    yield os.path.relpath(path, TOP), node

    def test_files(self):
        for path in files():
            self.assertRegex(os.path.basename(path), r"^[a-z0-9_]+\.py$")
            self.assertLessEqual(len(text_of(path).splitlines()), 399, path)

    def test_lines_and_characters(self):
        for path in files():
            for number, line in enumerate(text_of(path).split("\n"), 1):
                self.assertLessEqual(len(line), 120, (path, number))
                self.assertTrue(all(" " <= one <= "~" for one in line), (path, number))

    def test_functions_are_short(self):
        for path, node in self.each_node(ast.FunctionDef):
            self.assertLessEqual(node.end_lineno - node.lineno + 1, 40, (path, node.name))

    def test_imports(self):
        for path, node in self.each_node(ast.Import, ast.ImportFrom):
            self.assertIsInstance(node, ast.ImportFrom, path)
            names = {one.name for one in node.names}
            self.assertEqual((node.level, [one.asname for one in node.names]), (0, [None] * len(node.names)))
            if not node.module.startswith("owedround."):
                self.assertLessEqual(names, LIBRARY.get(node.module, set()), (path, node.module))

    def test_builtins(self):
        for path, node in self.each_node(ast.Name):
            if hasattr(builtins, node.id):
                self.assertIn(node.id, BUILTINS, (path, node.lineno))

    def test_nothing_of_a_barred_kind(self):
        barred = (ast.Global, ast.AsyncFunctionDef, ast.AsyncFor, ast.Await, ast.Div)
        for path, node in self.each_node(*barred):
            self.fail((path, node))

    def test_judging_builtins_take_lists(self):
        for path, node in self.each_node(ast.Call):
            if isinstance(node.func, ast.Name) and node.func.id in EAGER:
                for one in node.args:
                    self.assertNotIsInstance(one, ast.GeneratorExp, (path, node.lineno))


if __name__ == "__main__":
    unittest.main()
