"""What tests of errors have in common: one wrong argument, and two at once."""

import inspect
import unittest

from owedround.errors import TooMany, UnknownName

# In which attribute an error keeps the wrong argument, by its name.
KEPT = {"UnknownName": "word", "InvalidNumber": "value"}


def run(call, values, named):
    """The result of a call; the first one of a generator, which raises its errors only then."""
    told = call(*values, **named)
    return next(told, None) if inspect.isgenerator(told) else told


class ErrorCase(unittest.TestCase):
    def refused(self, error, call, *values, **named):
        """The error of a call, which has to be just of this class."""
        with self.assertRaises(error) as caught:
            run(call, values, named)
        self.assertIs(type(caught.exception), error)
        return caught.exception

    def unknown(self, word, call, *values, **named):
        self.assertIs(self.refused(UnknownName, call, *values, **named).word, word)

    def too_many(self, limit, call, *values, **named):
        self.assertEqual(self.refused(TooMany, call, *values, **named).limit, limit)

    def in_order(self, call, good, *wrongs):
        """Each wrong is an index or a keyword, a wrong value, and its error, in the order of the checks.

        Each one alone raises its error, and of each two the earlier one does. `good` is the list of
        the arguments, or a pair of this list and the dict of the keywords.
        """
        values, named = good if isinstance(good, tuple) else (good, {})
        run(call, values, named)
        for k, first in enumerate(wrongs):
            for then in wrongs[k:]:
                if then is first or then[0] != first[0]:
                    self.told_by(first, call, *put(put((values, named), first), then))

    def told_by(self, wrong, call, values, named):
        _, value, error = wrong
        caught = self.refused(error, call, *values, **named)
        if error.__name__ in KEPT:
            self.assertIs(getattr(caught, KEPT[error.__name__]), value)


def put(good, wrong):
    """The arguments with a wrong one among them."""
    values, named = list(good[0]), dict(good[1])
    at, value, _ = wrong
    if isinstance(at, int):
        values[at] = value
    else:
        named[at] = value
    return values, named
