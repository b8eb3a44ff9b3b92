"""Integers, names and fractions: what single values have to be."""

from math import gcd

from owedround.errors import InvalidNumber, InvalidPlace

MAX_LETTERS = 8
MAX_FIGURES = 60


def is_integer(value):
    """Whether the value is an integer of at most MAX_FIGURES digits."""
    # An exponent has to be a literal here, so MAX_FIGURES cannot be one.
    return _is_whole(value) and abs(value) < 10 ** 60


def is_count(value):
    """Whether the value is an integer of at most MAX_FIGURES digits, and at least 0."""
    return is_integer(value) and value >= 0


def is_name(value):
    """Whether the value is one to MAX_LETTERS letters from a to z."""
    if not isinstance(value, str) or not 1 <= len(value) <= MAX_LETTERS:
        return False
    return all(["a" <= letter <= "z" for letter in value])


def are_names(value):
    """Whether the value is a tuple of names; a name can come twice."""
    return isinstance(value, tuple) and all([is_name(name) for name in value])


def is_naming(names, value):
    """Whether the value is a dict from just these names to names that differ."""
    if not are_names(names):
        raise InvalidPlace("the names have to be a tuple of names")
    if not has_just_keys(value, sorted(set(names))):
        return False
    told = tuple(value.values())
    return are_names(told) and len(set(told)) == len(told)


def is_fraction(value):
    """Whether the value is a fraction, with numbers of any length."""
    if not isinstance(value, tuple) or len(value) != 2:
        return False
    top, bottom = value
    return _is_whole(top) and _is_whole(bottom) and bottom >= 1 and gcd(top, bottom) == 1


def fraction(top, bottom):
    """The fraction with the value of top / bottom."""
    if not is_integer(top):
        raise InvalidNumber(top)
    if not is_integer(bottom) or bottom == 0:
        raise InvalidNumber(bottom)
    return lowest(top, bottom)


def part_of_one(fraction):
    """The fraction from 0 on and below 1 that differs from this one by an integer."""
    if not is_fraction(fraction):
        raise InvalidNumber(fraction)
    top, bottom = fraction
    return (top % bottom, bottom)


def lowest(top, bottom):
    """The fraction with the value of top / bottom, whose numbers can be of any length."""
    common = gcd(top, bottom)
    if bottom < 0:
        common = -common
    return (top // common, bottom // common)


def has_just_keys(value, keys):
    """Whether the value is a dict with just these keys, which differ from one another."""
    return isinstance(value, dict) and len(value) == len(keys) and all([key in value for key in keys])


def _is_whole(value):
    """Whether the value is an integer, however long."""
    return isinstance(value, int) and not isinstance(value, bool)
