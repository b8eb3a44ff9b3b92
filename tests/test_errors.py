"""[1.1] and [1.2]: the errors, what they are derived from, and what they keep."""

import unittest

from owedround import errors
from samples import ALL_STRANGE, RING

PLAIN = (
    "InvalidPlace",
    "InvalidTie",
    "InvalidRing",
    "InvalidWeb",
    "InvalidTable",
    "InvalidRim",
    "InvalidDebts",
    "InvalidPlan",
    "InvalidTree",
    "InvalidRide",
    "InvalidLeaning",
    "InvalidTurn",
    "InvalidDrawing",
    "InvalidOperation",
)
KEEPING = {
    "ParseError": (errors.WebError, "number"),
    "UnknownName": (KeyError, "word"),
    "InvalidNumber": (IndexError, "value"),
    "NothingToUndo": (RuntimeError, "many"),
    "TooMany": (OverflowError, "limit"),
    "Refused": (ArithmeticError, "pledge"),
}
NAMES = ("WebError",) + PLAIN + tuple(KEEPING)


class Bases(unittest.TestCase):
    def test_web_error_is_a_value_error(self):
        self.assertEqual(errors.WebError.__bases__, (ValueError,))

    def test_plain_errors_are_directly_web_errors(self):
        for name in PLAIN:
            self.assertEqual(getattr(errors, name).__bases__, (errors.WebError,), name)

    def test_keeping_errors_have_their_direct_base(self):
        for name, (base, _) in KEEPING.items():
            self.assertEqual(getattr(errors, name).__bases__, (base,), name)

    def test_no_error_is_derived_from_another_one(self):
        for name in NAMES:
            for other in NAMES:
                derived = issubclass(getattr(errors, name), getattr(errors, other))
                expected = name == other or (
                    other == "WebError" and (name in PLAIN or name == "ParseError")
                )
                self.assertEqual(derived, expected, (name, other))

    def test_the_classes_are_defined_in_this_file(self):
        for name in NAMES:
            self.assertEqual(getattr(errors, name).__module__, "owedround.errors")
            self.assertEqual(getattr(errors, name).__name__, name)


class Catching(unittest.TestCase):
    def test_plain_errors_are_caught_by_name_and_by_base(self):
        for name in ("WebError",) + PLAIN:
            made = getattr(errors, name)
            for caught in (made, errors.WebError, ValueError):
                with self.assertRaises(caught):
                    raise made("a message")

    def test_plain_errors_keep_their_message(self):
        for name in ("WebError",) + PLAIN:
            self.assertEqual(getattr(errors, name)("a message").args, ("a message",))

    def test_keeping_errors_are_caught_by_name_and_by_base(self):
        for name, (base, _) in KEEPING.items():
            made = getattr(errors, name)
            for caught in (made, base):
                with self.assertRaises(caught):
                    raise made(3)
        with self.assertRaises(ValueError):
            raise errors.ParseError(0)
        with self.assertRaises(LookupError):
            raise errors.UnknownName("a")

    def test_keeping_errors_are_not_web_errors(self):
        for name in KEEPING:
            if name != "ParseError":
                self.assertNotIsInstance(getattr(errors, name)(1), ValueError)


class Keeping(unittest.TestCase):
    def test_each_keeps_what_it_takes_under_the_told_name(self):
        for name, (_, attribute) in KEEPING.items():
            made = getattr(errors, name)
            for value in ALL_STRANGE + (0, 18, "word", ("home", "a"), RING, 10 ** 99):
                self.assertIs(getattr(made(value), attribute), value)

    def test_each_has_just_this_attribute(self):
        for name, (_, attribute) in KEEPING.items():
            self.assertEqual(vars(getattr(errors, name)(1)), {attribute: 1})

    def test_parse_error_keeps_an_index_or_none(self):
        self.assertEqual(errors.ParseError(7).number, 7)
        self.assertIsNone(errors.ParseError(None).number)

    def test_each_takes_just_one_value(self):
        for name in KEEPING:
            made = getattr(errors, name)
            for wrong in ((), (1, 2)):
                with self.assertRaises(TypeError):
                    made(*wrong)


if __name__ == "__main__":
    unittest.main()
