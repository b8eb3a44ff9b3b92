"""The opening of the interface: each name exists as written, in the file that lists it."""

import inspect
import unittest

from owedround.base import rings, webs, words
from samples import KITE

FUNCTIONS = (
    (words, "is_integer", ("value",)),
    (words, "is_count", ("value",)),
    (words, "is_name", ("value",)),
    (words, "are_names", ("value",)),
    (words, "is_naming", ("names", "value")),
    (words, "is_fraction", ("value",)),
    (words, "fraction", ("top", "bottom")),
    (words, "part_of_one", ("fraction",)),
    (webs, "full_web", ("places",)),
    (webs, "ring_web", ("ring",)),
    (rings, "is_ring", ("web", "value")),
    (rings, "turned_least", ("ring",)),
    (rings, "ring_ties", ("ring",)),
    (rings, "each_ring", ("web",)),
)
METHODS = (
    ("neighbours", ("place",)),
    ("ties_at", ("place",)),
    ("is_tied", ("a", "b")),
    ("hangs", ("places",)),
    ("ties_within", ("places",)),
    ("ties_across", ("places",)),
    ("with_tie", ("a", "b")),
    ("without_tie", ("a", "b")),
    ("with_place", ("name", "neighbour")),
    ("renamed", ("names",)),
)
OPERATORS = ("__init__", "__contains__", "__len__", "__iter__", "__eq__", "__str__")


def parameters(function):
    return tuple(inspect.signature(function).parameters)


class Interface(unittest.TestCase):
    def test_functions(self):
        for module, name, told in FUNCTIONS:
            function = getattr(module, name)
            self.assertTrue(inspect.isfunction(function), name)
            self.assertEqual(function.__module__, module.__name__, name)
            self.assertEqual(parameters(function), told, name)

    def test_each_ring_is_a_generator(self):
        self.assertTrue(inspect.isgeneratorfunction(rings.each_ring))

    def test_the_class_of_webs(self):
        self.assertEqual(webs.Web.__module__, "owedround.base.webs")
        self.assertEqual(parameters(webs.Web), ("places", "ties"))
        for name in OPERATORS:
            self.assertIn(name, vars(webs.Web))

    def test_methods_of_webs(self):
        for name, told in METHODS:
            self.assertTrue(inspect.isfunction(vars(webs.Web)[name]), name)
            self.assertEqual(parameters(getattr(KITE, name)), told, name)

    def test_class_methods_of_webs(self):
        for name, rest in (("from_lines", "lines"), ("of_ties", "ties")):
            self.assertIsInstance(vars(webs.Web)[name], classmethod)
            told = inspect.signature(getattr(webs.Web, name)).parameters
            self.assertEqual([(one.name, one.kind) for one in told.values()],
                             [(rest, inspect.Parameter.VAR_POSITIONAL)])

    def test_properties_of_webs(self):
        for name in ("places", "ties", "lines", "spare", "bridges"):
            self.assertIsInstance(vars(webs.Web)[name], property)


if __name__ == "__main__":
    unittest.main()
