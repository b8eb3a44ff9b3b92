"""[2.2]: the rings of webs."""

import unittest
from itertools import permutations

from owedround.base.rings import each_ring, is_ring, ring_ties, turned_least
from owedround.errors import InvalidRing, InvalidWeb
from samples import ALL_STRANGE, DUMBBELL, FOUR, FULLEST, KITE, LINE, NINE, PAIR, RING, SIX, TAIL
from samples import WEBS, rings_by_trial

SMALL = (RING, KITE, FOUR, PAIR, TAIL, LINE, DUMBBELL, SIX)
NO_ROUNDS = (
    (), ("a",), ("a", "b"), ("a", "b", "a"), ("a", "b", "c", "a"), ["a", "b", "c"], "abc", ("a", "b", "C"),
    ("a", "b", ""), ("a", "b", "abcdefghi"), ("a", "b", 1), (1, 2, 3), ("a", "b", None), ("a", "b", ["c"]),
    (("a",), ("b",), ("c",)), {"a": 1, "b": 2, "c": 3}, RING,
)


class IsRing(unittest.TestCase):
    def test_rings_from_any_place_on_in_either_direction(self):
        for ring in (("a", "b", "c"), ("b", "c", "d"), ("a", "b", "d", "c")):
            for k in range(len(ring)):
                turned = ring[k:] + ring[:k]
                self.assertIs(is_ring(KITE, turned), True)
                self.assertIs(is_ring(KITE, turned[::-1]), True)

    def test_tuples_that_are_no_rings(self):
        for value in (
            ("a", "b", "d"), ("a", "d", "b"), ("d", "a", "b"), ("a", "b", "c", "d"), ("a", "c", "b", "d"),
            ("a", "b", "e"), ("x", "y", "z"), ("a", "b", "c", "a"), ("a", "b", "d", "c", "b"),
        ) + NO_ROUNDS:
            self.assertIs(is_ring(KITE, value), False, value)

    def test_every_tuple_of_different_places(self):
        for web in (RING, KITE, FOUR, PAIR, TAIL, LINE):
            rings = rings_by_trial(web)
            for many in range(len(web) + 1):
                for way in permutations(web.places, many):
                    at = way.index(min(way)) if way else 0
                    self.assertIs(is_ring(web, way), way[at:] + way[:at] in rings)

    def test_every_value_is_judged(self):
        for value in ALL_STRANGE:
            for web in (PAIR, KITE):
                self.assertIs(is_ring(web, value), False)

    def test_wrong_webs(self):
        for wrong in ALL_STRANGE:
            if wrong is not RING:
                for value in (("a", "b", "c"), None):
                    with self.assertRaises(InvalidWeb):
                        is_ring(wrong, value)


class Rounds(unittest.TestCase):
    def test_turned_least(self):
        for k in range(4):
            ring = ("a", "d", "b", "c")
            self.assertEqual(turned_least(ring[k:] + ring[:k]), ring)
            self.assertEqual(turned_least((ring[k:] + ring[:k])[::-1]), ("a", "c", "b", "d"))

    def test_ring_ties(self):
        for ring in (("b", "a", "d", "c"), ("d", "c", "b", "a"), ("c", "d", "a", "b")):
            self.assertEqual(ring_ties(ring), (("a", "b"), ("a", "d"), ("b", "c"), ("c", "d")))
        self.assertEqual(ring_ties(("z", "ab", "a")), (("a", "ab"), ("a", "z"), ("ab", "z")))

    def test_rings_of_no_web_and_longer_than_webs(self):
        names = tuple("zyxwvutsrqponmlkjihgfedcba")
        self.assertEqual(turned_least(names), ("a",) + names[:-1])
        self.assertEqual(ring_ties(names)[:3], (("a", "b"), ("a", "z"), ("b", "c")))
        self.assertEqual(len(ring_ties(names)), 26)

    def test_wrong_rings(self):
        for wrong in ALL_STRANGE + NO_ROUNDS:
            for call in (turned_least, ring_ties):
                with self.assertRaises(InvalidRing):
                    call(wrong)


class EachRing(unittest.TestCase):
    def test_all_rings_ascending(self):
        for web in SMALL:
            self.assertEqual(list(each_ring(web)), rings_by_trial(web))

    def test_the_rings_of_the_kite(self):
        self.assertEqual(
            list(each_ring(KITE)),
            [("a", "b", "c"), ("a", "b", "d", "c"), ("a", "c", "b"), ("a", "c", "d", "b"),
             ("b", "c", "d"), ("b", "d", "c")],
        )

    def test_webs_without_rings(self):
        for web in (PAIR, LINE, NINE):
            self.assertEqual(list(each_ring(web)), [])

    def test_the_greatest_web(self):
        rings = list(each_ring(FULLEST))
        self.assertEqual(rings, sorted(rings))
        self.assertEqual(len(set(rings)), len(rings))
        for ring in rings:
            self.assertIs(is_ring(FULLEST, ring), True)
            self.assertEqual(turned_least(ring), ring)
            self.assertIn(turned_least(ring[::-1]), rings)
            self.assertEqual(len(ring_ties(ring)), len(ring))
        self.assertEqual(rings, rings_by_trial(FULLEST))

    def test_all_rings_are_tuples(self):
        for web in WEBS:
            for ring in each_ring(web):
                self.assertIs(type(ring), tuple)

    def test_the_error_comes_with_the_first_result(self):
        for wrong in ALL_STRANGE:
            if wrong is not RING:
                rings = each_ring(wrong)
                with self.assertRaises(InvalidWeb):
                    next(rings)

    def test_one_by_one(self):
        one, other = each_ring(KITE), each_ring(KITE)
        self.assertIs(iter(one), one)
        self.assertEqual([next(one), next(one), next(other)],
                         [("a", "b", "c"), ("a", "b", "d", "c"), ("a", "b", "c")])


if __name__ == "__main__":
    unittest.main()
