"""[1.3], [0.1] and [0.8] as far as single values go: owedround.base.words."""

import unittest
from fractions import Fraction
from math import gcd

from owedround.base import words
from owedround.base.words import are_names, fraction, is_count, is_fraction
from owedround.base.words import is_integer, is_name, is_naming, part_of_one
from owedround.errors import InvalidNumber, InvalidPlace
from samples import ALL_STRANGE, RING

SIXTY = 10 ** 60 - 1
LONG = 10 ** 60


class Values(unittest.TestCase):
    def expect(self, judge, value, expected):
        self.assertIs(judge(value), expected, (judge.__name__, value))


class Constants(unittest.TestCase):
    def test_the_constants(self):
        self.assertEqual((words.MAX_LETTERS, words.MAX_FIGURES), (8, 60))


class Integers(Values):
    def test_integers(self):
        for value in (0, 1, -1, 7, -1000, SIXTY, -SIXTY):
            self.expect(is_integer, value, True)

    def test_sixty_one_digits_are_too_many(self):
        for value in (LONG, -LONG, 10 ** 61, -(10 ** 99)):
            self.expect(is_integer, value, False)

    def test_true_false_and_none_are_none(self):
        for value in (True, False, None):
            self.expect(is_integer, value, False)
            self.expect(is_count, value, False)

    def test_counts(self):
        for value in (0, 1, 18, SIXTY):
            self.expect(is_count, value, True)
        for value in (-1, -SIXTY, LONG, -LONG):
            self.expect(is_count, value, False)

    def test_other_values(self):
        for value in ALL_STRANGE + ("7", (7,), [7]):
            self.expect(is_integer, value, False)
            self.expect(is_count, value, False)


class Names(Values):
    def test_names(self):
        for value in ("a", "z", "az", "tie", "abcdefgh", "zzzzzzzz"):
            self.expect(is_name, value, True)

    def test_no_names(self):
        for value in ("", "abcdefghi", "A", "aB", "a1", "1", "a_", "a ", " a", "a\n", "`", "{", "~"):
            self.expect(is_name, value, False)

    def test_letters_beyond_ascii_are_none(self):
        for value in ("\u00e4", "\u00df", "a\u0430", "\uff41"):
            self.expect(is_name, value, False)

    def test_other_values_are_no_names(self):
        for value in ALL_STRANGE + (("a",), ["a"], {"a": "a"}, 1):
            self.expect(is_name, value, False)

    def test_tuples_of_names(self):
        for value in ((), ("a",), ("b", "a", "b"), ("abcdefgh",) * 30):
            self.expect(are_names, value, True)

    def test_no_tuples_of_names(self):
        wrong = (["a"], [], "ab", {"a": "b"}, {}, ("a", "A"), ("a", ""), ("a", 1), ("a", None))
        for value in wrong + (("a", ("b",)), ("a", ["b"]), ("abcdefghi",), (RING,), RING, None, True, 3):
            self.expect(are_names, value, False)


class Namings(unittest.TestCase):
    def test_namings(self):
        for names, value in (
            ((), {}),
            (("a",), {"a": "a"}),
            (("a", "b"), {"a": "b", "b": "a"}),
            (("a", "b"), {"b": "x", "a": "abcdefgh"}),
            (("b", "a", "b", "a"), {"a": "b", "b": "c"}),
        ):
            self.assertIs(is_naming(names, value), True, (names, value))

    def test_no_namings(self):
        for names, value in (
            ((), {"a": "b"}),
            (("a", "b"), {}),
            (("a", "b"), {"a": "b"}),
            (("a", "b"), {"a": "b", "b": "a", "c": "c"}),
            (("a", "b"), {"a": "b", "c": "a"}),
            (("a", "b"), {"a": "c", "b": "c"}),
            (("a", "b", "b"), {"a": "c", "b": "d", "c": "e"}),
            (("a", "b"), {"a": "c", "b": "B"}),
            (("a", "b"), {"a": "c", "b": "abcdefghi"}),
            (("a", "b"), {"a": "c", "b": ["d"]}),
            (("a", "b"), {"a": ["c"], "b": ["c"]}),
            (("a", "b"), {"a": "c", 1: "d"}),
            (("a", "b"), {"a": 0, "b": True}),
            (("a", "b"), {("a",): "c", None: "d"}),
            (("a", "b"), (("a", "c"), ("b", "d"))),
        ):
            self.assertIs(is_naming(names, value), False, (names, value))

    def test_every_value_is_judged(self):
        for value in ALL_STRANGE:
            self.assertIs(is_naming(("a", "c"), value), False)

    def test_names_have_to_be_a_tuple_of_names(self):
        for names in (["a"], "a", {"a": "b"}, ("a", "B"), ("a", 1), ("",), None, True, RING, ("a", ["b"])):
            for value in ({}, {"a": "b"}, None):
                with self.assertRaises(InvalidPlace):
                    is_naming(names, value)

    def test_the_arguments_stay(self):
        names, value = ("b", "a"), {"b": "x", "a": "y"}
        is_naming(names, value)
        self.assertEqual((names, list(value.items())), (("b", "a"), [("b", "x"), ("a", "y")]))


class Fractions(Values):
    def test_fractions(self):
        for value in ((0, 1), (1, 1), (-3, 2), (7, 3), (SIXTY, 2), (-1, SIXTY)):
            self.expect(is_fraction, value, True)

    def test_numbers_of_any_length(self):
        for value in ((LONG, 1), (10 ** 99, 3), (-(10 ** 99), 10 ** 99 + 1), (1, 10 ** 99)):
            self.expect(is_fraction, value, True)
        for value in ((LONG, 10), (10 ** 99, 10 ** 98)):
            self.expect(is_fraction, value, False)

    def test_no_fractions(self):
        for value in ((2, 4), (-2, 4), (0, 2), (0, 0), (1, 0), (1, -1), (0, -1), (3, -2), (-3, -2)):
            self.expect(is_fraction, value, False)

    def test_other_values_are_no_fractions(self):
        for value in ((True, 1), (1, True), (False, 1), (1, False), (None, 1), (1, None), [1, 2], (1,)):
            self.expect(is_fraction, value, False)
        for value in ALL_STRANGE + ((1, 2, 3), ("1", "2"), ((1,), 2), "12", {1: 2, 3: 4}, 1):
            self.expect(is_fraction, value, False)

    def test_fraction_has_the_value(self):
        for top in range(-24, 25):
            for bottom in list(range(-12, 0)) + list(range(1, 13)):
                made = fraction(top, bottom)
                self.assertEqual(Fraction(*made), Fraction(top, bottom))
                self.assertIs(is_fraction(made), True)
                self.assertEqual(gcd(*made), 1)

    def test_fraction_of_long_numbers(self):
        self.assertEqual(fraction(SIXTY, -SIXTY), (-1, 1))
        self.assertEqual(fraction(-SIXTY, 9), (-SIXTY // 9, 1))
        self.assertEqual(fraction(0, -SIXTY), (0, 1))

    def test_fraction_makes_integers_alone(self):
        for number in fraction(0, 5) + fraction(6, -4):
            self.assertIs(type(number), int)

    def refused(self, kept, call, *values):
        with self.assertRaises(InvalidNumber) as caught:
            call(*values)
        self.assertIs(caught.exception.value, kept)

    def test_fraction_keeps_the_first_wrong_argument(self):
        for wrong in ALL_STRANGE + (True, LONG, -LONG, "7"):
            self.refused(wrong, fraction, wrong, 1)
            self.refused(wrong, fraction, wrong, 0)
            self.refused(wrong, fraction, wrong, None)
            self.refused(wrong, fraction, 1, wrong)

    def test_fraction_refuses_zero_at_the_bottom(self):
        self.refused(0, fraction, 1, 0)
        self.refused(0, fraction, 0, 0)
        self.refused(False, fraction, 1, False)

    def test_part_of_one(self):
        for top in range(-30, 31):
            for bottom in range(1, 12):
                told = fraction(top, bottom)
                part = part_of_one(told)
                self.assertIs(is_fraction(part), True)
                self.assertTrue(0 <= Fraction(*part) < 1)
                self.assertEqual((Fraction(*told) - Fraction(*part)).denominator, 1)

    def test_part_of_one_of_long_numbers(self):
        self.assertEqual(part_of_one((10 ** 99 + 1, 10)), (1, 10))
        self.assertEqual(part_of_one((-1, 10 ** 99)), (10 ** 99 - 1, 10 ** 99))
        self.assertEqual(part_of_one((10 ** 99, 1)), (0, 1))

    def test_part_of_one_refuses_what_is_no_fraction(self):
        for wrong in ALL_STRANGE + ((2, 4), (1, 0), (1, -2), (True, 2), [1, 2], 1):
            self.refused(wrong, part_of_one, wrong)


if __name__ == "__main__":
    unittest.main()
