"""The examples of the document, word for word."""

import doctest
import unittest

from owedround.base import rings, webs, words
from samples import FOUR, KITE, RING

MODULES = (words, webs, rings)

WORDS = '''
>>> [is_integer(-7), is_count(True), is_name("ab1"), are_names(()), are_names(("b", "a", "b")), is_naming(("a", "b"), {"a": "b", "b": "a"})]
[True, False, False, True, True, True]
>>> [fraction(6, -4), fraction(0, 9), is_fraction((2, 4)), is_fraction((-3, 2)), part_of_one((-3, 2)), part_of_one((7, 3)), part_of_one((4, 1))]
[(-3, 2), (0, 1), False, True, (1, 2), (1, 3), (0, 1)]
'''

WEBS = '''
>>> [str(KITE), KITE.spare, KITE.neighbours("b"), KITE.ties_at("d"), KITE.ties_within(("a", "b", "c")), KITE.ties_across(("a", "d"))]
['web of 4 places, 5 ties', 2, ('a', 'c', 'd'), (('b', 'd'), ('c', 'd')), (('a', 'b'), ('a', 'c'), ('b', 'c')), (('a', 'b'), ('a', 'c'), ('b', 'd'), ('c', 'd'))]
>>> tail = KITE.with_place("e", "d")
>>> [tail.bridges, tail.hangs(("a", "d")), tail.hangs(("c", "d", "e")), tail.without_tie("c", "b").lines[2], ("d", "e") in tail, "f" in tail, len(tail)]
[(('d', 'e'),), False, True, 'tie b d', True, False, 5]
>>> [ring_web(("b", "a", "c")) == full_web(("a", "b", "c")), Web.from_lines("tie b a").places, list(Web.of_ties(("b", "c"), ("a", "b")))]
[True, ('a', 'b'), [('a', 'b'), ('b', 'c')]]
'''

RINGS = '''
>>> [is_ring(KITE, ("d", "c", "b")), is_ring(KITE, ("a", "b", "d")), turned_least(("c", "b", "a")), ring_ties(("c", "b", "a")), len(list(each_ring(KITE))), list(each_ring(KITE))[:3]]
[True, False, ('a', 'c', 'b'), (('a', 'b'), ('a', 'c'), ('b', 'c')), 6, [('a', 'b', 'c'), ('a', 'b', 'd', 'c'), ('a', 'c', 'b')]]
'''


class Examples(unittest.TestCase):
    def check(self, name, text):
        known = {"RING": RING, "KITE": KITE, "FOUR": FOUR}
        for module in MODULES:
            known.update({word: getattr(module, word) for word in dir(module) if word[0] != "_"})
        test = doctest.DocTestParser().get_doctest(text, known, name, None, 0)
        said = []
        result = doctest.DocTestRunner(verbose=False).run(test, out=said.append)
        self.assertGreater(result.attempted, 0)
        self.assertEqual(result.failed, 0, "".join(said))

    def test_words(self):
        self.check("words", WORDS)

    def test_webs(self):
        self.check("webs", WEBS)

    def test_rings(self):
        self.check("rings", RINGS)


if __name__ == "__main__":
    unittest.main()
