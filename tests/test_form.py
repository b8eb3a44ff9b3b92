"""What of the form of the package can be counted: files, lines, characters, imports, builtins."""

import ast
import builtins
import os
import unittest

import owedround

TOP = os.path.dirname(owedround.__file__)
LIBRARY = {
    "math": {"gcd", "lcm", "isqrt", "comb", "perm", "factorial"},
    "heapq": {"heappush", "heappop", "heapify", "heapreplace", "heappushpop"},
    "itertools": {"chain", "accumulate", "pairwise", "islice", "zip_longest"},
    "collections": {"defaultdict"},
}
BUILTINS = set(
    "len range enumerate zip min max sum abs sorted reversed int str bool bytes list tuple dict set "
    "frozenset isinstance ord repr any all divmod pow iter next map property classmethod staticmethod "
    "ValueError TypeError KeyError IndexError LookupError ZeroDivisionError ArithmeticError "
    "OverflowError RuntimeError NotImplemented".split()
)
EAGER = {"any", "all", "min", "max", "sum", "sorted"}
METHODS = set(
    "append clear copy count endswith extend find get index insert isalnum isalpha isdigit islower isspace "
    "isupper items join keys ljust lower lstrip partition pop remove replace reverse rfind rjust rpartition "
    "rsplit rstrip setdefault split splitlines startswith strip update upper values zfill bit_length "
    "add discard".split()
)
NO_WORDS = set(
    "type typing enum Enum Flag Generic Protocol ABC namedtuple NamedTuple TypedDict dataclass "
    "register mro elements open input law eval exec exit globals locals vars dir id super".split()
)


def files():
    found = []
    for folder, inner, names in os.walk(TOP):
        inner[:] = [name for name in inner if name != "__pycache__"]
        found += [os.path.join(folder, name) for name in names]
        if "__init__.py" not in names:
            found.append(os.path.join(folder, "no __init__"))
    return sorted(found)


def text_of(path):
    with open(path, encoding="utf-8") as told:
        return told.read()


def is_builtin(name):
    """Whether Python itself has the name; what doctest leaves behind does not count."""
    return name != "_" and hasattr(builtins, name)


def is_told_text(node):
    """Whether what a row returns is one of the five forms of a text."""
    if isinstance(node, ast.JoinedStr):
        return True
    if isinstance(node, ast.Constant):
        return isinstance(node.value, str)
    if not isinstance(node, ast.Call):
        return False
    if isinstance(node.func, ast.Name):
        return node.func.id in ("str", "repr")
    return node.func.attr == "join" and isinstance(node.func.value, ast.Constant)


class Form(unittest.TestCase):
    def each_node(self, *kinds):
        for path in files():
            for node in ast.walk(ast.parse(text_of(path))):
                if isinstance(node, kinds):
                    yield os.path.relpath(path, TOP), node

    def test_files(self):
        for path in files():
            self.assertRegex(os.path.basename(path), r"^[a-z0-9_]+\.py$")
            self.assertLessEqual(len(text_of(path).splitlines()), 399, path)

    def test_lines_and_characters(self):
        for path in files():
            for number, line in enumerate(text_of(path).split("\n"), 1):
                self.assertLessEqual(len(line), 120, (path, number))
                self.assertTrue(all(" " <= one <= "~" for one in line), (path, number))

    def test_functions_are_short(self):
        for path, node in self.each_node(ast.FunctionDef):
            self.assertLessEqual(node.end_lineno - node.lineno + 1, 40, (path, node.name))

    def test_imports(self):
        for path, node in self.each_node(ast.Import, ast.ImportFrom):
            self.assertIsInstance(node, ast.ImportFrom, path)
            names = {one.name for one in node.names}
            self.assertEqual((node.level, [one.asname for one in node.names]), (0, [None] * len(node.names)))
            if not node.module.startswith("owedround."):
                self.assertLessEqual(names, LIBRARY.get(node.module, set()), (path, node.module))

    def test_builtins(self):
        for path, node in self.each_node(ast.Name):
            if is_builtin(node.id):
                self.assertIn(node.id, BUILTINS, (path, node.lineno))

    def test_nothing_of_a_barred_kind(self):
        barred = (ast.Global, ast.AsyncFunctionDef, ast.AsyncFor, ast.Await, ast.Div)
        for path, node in self.each_node(*barred):
            self.fail((path, node))

    def test_judging_builtins_take_lists(self):
        for path, node in self.each_node(ast.Call):
            if isinstance(node.func, ast.Name) and node.func.id in EAGER:
                for one in node.args:
                    self.assertNotIsInstance(one, ast.GeneratorExp, (path, node.lineno))

    def test_methods_of_builtin_values(self):
        own = {node.name for _, node in self.each_node(ast.FunctionDef)}
        for path, node in self.each_node(ast.Call):
            if isinstance(node.func, ast.Attribute):
                self.assertIn(node.func.attr, METHODS | own, (path, node.lineno))

    def test_no_name_is_bound_over_another_one(self):
        for path in files():
            tree = ast.parse(text_of(path))
            above = {one.name for node in tree.body if isinstance(node, ast.ImportFrom) for one in node.names}
            above |= {node.name for node in tree.body if isinstance(node, ast.ClassDef)}
            bound = [one.arg for one in ast.walk(tree) if isinstance(one, ast.arg)]
            bound += [one.id for one in ast.walk(tree) if isinstance(one, ast.Name) and isinstance(one.ctx, ast.Store)]
            for name in bound:
                self.assertNotIn(name, above, path)
                self.assertFalse(is_builtin(name), (path, name))

    def test_names_are_bound_once_in_a_file(self):
        for path in files():
            bound = []
            for node in ast.parse(text_of(path)).body:
                if isinstance(node, ast.ImportFrom):
                    bound += [one.name for one in node.names]
                elif isinstance(node, (ast.ClassDef, ast.FunctionDef)):
                    bound.append(node.name)
            self.assertEqual(len(bound), len(set(bound)), path)

    def test_generators_are_iterated_at_once(self):
        made = [node for _, node in self.each_node(ast.FunctionDef)]
        generators = {node.name for node in made if any(isinstance(one, ast.Yield) for one in ast.walk(node))}
        used, fitting = 0, 0
        for _, node in self.each_node(ast.Name, ast.For, ast.comprehension, ast.YieldFrom, ast.Call):
            used += isinstance(node, ast.Name) and node.id in generators
            told = [getattr(node, "iter", None), getattr(node, "value", None)]
            if isinstance(node, ast.Call) and isinstance(node.func, ast.Name) and node.func.id in ("list", "tuple"):
                told = node.args
            for one in told:
                if isinstance(one, ast.Call) and isinstance(one.func, ast.Name):
                    fitting += one.func.id in generators
        self.assertEqual(used, fitting)

    def test_texts_are_told_in_one_of_five_forms(self):
        # [L28]: a text, an f-string, str(..), repr(..) or the join of a written text.
        found = 0
        for path, node in self.each_node(ast.FunctionDef):
            if node.name in ("__str__", "__repr__"):
                for told in [one.value for one in ast.walk(node) if isinstance(one, ast.Return)]:
                    self.assertTrue(is_told_text(told), (path, told.lineno))
                    found += 1
        self.assertEqual(found, 4)

    def test_lengths_are_told_by_len(self):
        for path, node in self.each_node(ast.FunctionDef):
            if node.name == "__len__":
                for told in [one.value for one in ast.walk(node) if isinstance(one, ast.Return)]:
                    self.assertIsInstance(told, ast.Call, (path, node.lineno))
                    self.assertEqual(ast.unparse(told.func), "len", (path, node.lineno))

    def test_barred_words_and_signs(self):
        for path, node in self.each_node(ast.Name, ast.Attribute, ast.Constant):
            if isinstance(node, ast.Name):
                self.assertNotIn(node.id, NO_WORDS, (path, node.lineno))
            elif isinstance(node, ast.Attribute):
                self.assertNotIn(node.attr, NO_WORDS, (path, node.lineno))
            elif isinstance(node.value, str):
                self.assertNotIn(chr(37), node.value, (path, node.lineno))
            else:
                self.assertNotIsInstance(node.value, (float, complex), (path, node.lineno))

    def test_no_two_files_import_from_each_other(self):
        needs = {}
        for path in files():
            name = "owedround." + os.path.relpath(path, TOP)[:-3].replace(os.sep, ".")
            nodes = [node for node in ast.parse(text_of(path)).body if isinstance(node, ast.ImportFrom)]
            needs[name] = {node.module for node in nodes if node.module.startswith("owedround")}
        while needs:
            free = [name for name, told in needs.items() if not told & set(needs)]
            self.assertTrue(free, needs)
            for name in free:
                del needs[name]


if __name__ == "__main__":
    unittest.main()
