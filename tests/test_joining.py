"""[6.1] to [6.5]: joining trees, what they close, and their hands."""

import unittest
from itertools import permutations, product

from owedround.base.rings import is_ring, ring_ties
from owedround.base.webs import Web, full_web, ring_web
from owedround.errors import InvalidOperation, InvalidTie, InvalidTree, InvalidWeb, UnknownName
from owedround.tree.joining import count_trees, cut_closed, each_tree, exchanged, hands_of, is_hands
from owedround.tree.joining import is_joining_tree, ring_closed, side_of, tree_of_hands, way_in
from cases import ErrorCase
from oracles import trees_by_trial
from samples import ALL_STRANGE, DUMBBELL, FLAT, FOUR, FULLEST, KITE, LINE, NINE, NO_PLACES, ODD, PAIR
from samples import RING, SIX, SMALL, TAIL, WEBS, joined

TREE = (("a", "b"), ("a", "c"), ("b", "d"))
NO_WEBS = [value for value in ALL_STRANGE if value is not RING] + [FLAT, TREE]
NO_TREES = (
    (), TREE[:2], TREE + (("c", "d"),), TREE[::-1], (TREE[0], TREE[0], TREE[2]), list(TREE),
    (("a", "b"), ("a", "c"), ("b", "c")), (("a", "b"), ("a", "c"), ("a", "d")), (("b", "a"), ("a", "c"), ("b", "d")),
    (("a", "b"), ("a", "c"), ["b", "d"]), (("a", "b"), ("a", "c"), None), (("a", "b"), ("a", "c"), "bd"),
    ("ab", "ac", "bd"), TREE[:2] + (("b", "z"),), {tie: True for tie in TREE}, FLAT,
)
NO_TIES = ALL_STRANGE + (("a", "d"), ("b", "a"), ["a", "b"], "ab", ("a", "a"), ("a", "z"), ("a", "b", "c"), TREE, FLAT)


def trees_of(web, many):
    """Some joining trees, spread over all of them."""
    told = list(each_tree(web))
    return told[:: max(1, len(told) // many)]


class Trees(ErrorCase):
    def test_is_joining_tree_of_all_tuples_of_ties(self):
        for web in (PAIR, RING, KITE, LINE):
            trees = trees_by_trial(web)
            for many in range(len(web.places) + 1):
                for value in product(web.ties, repeat=many):
                    self.assertIs(is_joining_tree(web, value), value in trees)

    def test_values_that_are_no_trees(self):
        for value in NO_TREES + ALL_STRANGE:
            self.assertIs(is_joining_tree(KITE, value), False, value)
        for wrong in NO_WEBS:
            self.refused(InvalidWeb, is_joining_tree, wrong, TREE)
            self.refused(InvalidWeb, is_joining_tree, wrong, None)

    def test_all_trees_ascending(self):
        for web in SMALL + (ODD, SIX):
            self.assertEqual(list(each_tree(web)), trees_by_trial(web))

    def test_count_trees(self):
        for web in SMALL + (ODD, SIX):
            self.assertEqual(count_trees(web), len(list(each_tree(web))))
        self.assertEqual([count_trees(web) for web in (PAIR, LINE, NINE, DUMBBELL, SIX)], [1, 1, 1, 9, 6 ** 4])
        self.assertEqual([count_trees(ring_web(tuple("abcdefghi"[:many]))) for many in (3, 5, 9)], [3, 5, 9])
        self.assertEqual(count_trees(full_web(tuple("abcde"))), 125)

    def test_the_greatest_web(self):
        told = list(each_tree(FULLEST))
        self.assertEqual((len(told), count_trees(FULLEST)), (10404, 10404))
        self.assertEqual(told, sorted(set(told)))
        for tree in told[::500]:
            self.assertIs(is_joining_tree(FULLEST, tree), True)

    def test_the_numbers_do_not_hang_on_names(self):
        for web in WEBS:
            names = dict(zip(web.places, web.places[::-1]))
            self.assertEqual(count_trees(web.renamed(names)), count_trees(web))

    def test_wrong_webs(self):
        for wrong in NO_WEBS:
            self.refused(InvalidWeb, count_trees, wrong)
            self.refused(InvalidWeb, each_tree, wrong)
            each_tree(wrong)  # the error comes with the first result only

    def test_one_by_one(self):
        one, other = each_tree(KITE), each_tree(KITE)
        told = [next(one), next(one), next(other)]
        self.assertEqual(told, [TREE, TREE[:2] + (("c", "d"),), TREE])


class Ways(ErrorCase):
    def test_all_ways(self):
        for web in WEBS:
            for tree in trees_of(web, 10):
                for a in web.places:
                    for b in web.places:
                        way = way_in(web, tree, a, b)
                        self.assertEqual((way[0], way[-1], len(set(way))), (a, b, len(way)))
                        for pair in zip(way, way[1:]):
                            self.assertIn(tuple(sorted(pair)), tree)
                        self.assertEqual(way_in(web, tree, b, a), way[::-1])
                    self.assertEqual(way_in(web, tree, a, a), (a,))

    def test_the_order_of_the_checks(self):
        for wrong in NO_TREES + ALL_STRANGE:
            self.in_order(way_in, [KITE, TREE, "a", "b"], (0, None, InvalidWeb), (1, wrong, InvalidTree),
                          (2, "zz", UnknownName), (3, "yy", UnknownName))
        for wrong in NO_PLACES:
            self.in_order(way_in, [KITE, TREE, "a", "b"], (2, wrong, UnknownName), (3, wrong, UnknownName))
        for wrong in NO_WEBS:
            self.refused(InvalidWeb, way_in, wrong, TREE, "a", "b")

    def test_a_tree_of_another_web(self):
        self.refused(InvalidTree, way_in, RING, TREE, "a", "b")
        self.refused(InvalidTree, way_in, TAIL, TREE, "a", "b")


class Closing(ErrorCase):
    def test_rings(self):
        for web in WEBS:
            for tree in trees_of(web, 10):
                for tie in [tie for tie in web.ties if tie not in tree]:
                    ring = ring_closed(web, tree, tie)
                    self.assertIs(is_ring(web, ring), True)
                    self.assertEqual(ring[0], min(ring))
                    self.assertLess(ring[1], ring[-1])
                    self.assertIn(tie, ring_ties(ring))
                    self.assertEqual([other for other in ring_ties(ring) if other not in tree], [tie])

    def test_cuts_and_sides(self):
        for web in WEBS:
            for tree in trees_of(web, 10):
                for tie in tree:
                    sides = [side_of(web, tree, tie, end) for end in tie]
                    self.assertEqual(sorted(sides[0] + sides[1]), list(web.places))
                    rest = [other for other in tree if other != tie]
                    for side in sides:
                        inner = [other for other in rest if set(other) <= set(side)]
                        self.assertTrue(joined(side, inner))
                        self.assertEqual(side, tuple(sorted(side)))
                        for place in side:
                            self.assertEqual(side_of(web, tree, tie, place), side)
                    cut = tuple(other for other in web.ties if (other[0] in sides[0]) != (other[1] in sides[0]))
                    self.assertEqual(cut_closed(web, tree, tie), cut)

    def test_exchanges_fit_rings_and_cuts(self):
        for web in SMALL + (SIX,):
            for tree in trees_of(web, 6):
                off = [tie for tie in web.ties if tie not in tree]
                for out, new in product(tree, off):
                    changed = tuple(sorted(set(tree) - {out} | {new}))
                    fits = out in ring_ties(ring_closed(web, tree, new))
                    self.assertEqual(new in cut_closed(web, tree, out), fits)
                    self.assertEqual(is_joining_tree(web, changed), fits)
                    if fits:
                        self.assertEqual(exchanged(web, tree, out, new), changed)
                        self.assertEqual(exchanged(web, changed, new, out), tree)
                    else:
                        self.refused(InvalidOperation, exchanged, web, tree, out, new)

    def test_one_comes_from_each_tree_to_each_one_by_exchanges(self):
        trees = list(each_tree(KITE))
        for one, other in product(trees, repeat=2):
            away = [tie for tie in one if tie not in other]
            while away:
                fitting = [new for new in other if new not in one and new in cut_closed(KITE, one, away[0])]
                one = exchanged(KITE, one, away[0], fitting[0])
                away = away[1:]
            self.assertEqual(one, other)

    def test_the_order_of_the_checks(self):
        for wrong in NO_TREES + ALL_STRANGE:
            self.in_order(ring_closed, [KITE, TREE, ("b", "c")], (0, None, InvalidWeb), (1, wrong, InvalidTree),
                          (2, ("a", "d"), InvalidTie))
            self.in_order(cut_closed, [KITE, TREE, ("a", "b")], (0, None, InvalidWeb), (1, wrong, InvalidTree),
                          (2, ("a", "d"), InvalidTie))
            self.in_order(side_of, [KITE, TREE, ("a", "b"), "a"], (0, None, InvalidWeb), (1, wrong, InvalidTree),
                          (2, ("a", "d"), InvalidTie), (3, "zz", UnknownName))
            self.in_order(exchanged, [KITE, TREE, ("a", "b"), ("b", "c")], (0, None, InvalidWeb),
                          (1, wrong, InvalidTree), (2, ("a", "d"), InvalidTie), (3, ("a", "d"), InvalidTie))
        for wrong in NO_WEBS:
            for call, rest in ((ring_closed, 1), (cut_closed, 1), (side_of, 2), (exchanged, 2)):
                self.refused(InvalidWeb, call, wrong, TREE, *[None] * rest)

    def test_ties_that_are_none_of_the_tree_or_off_it(self):
        for wrong in NO_TIES + (("b", "c"), ("c", "d")):
            self.refused(InvalidTie, cut_closed, KITE, TREE, wrong)
            self.refused(InvalidTie, side_of, KITE, TREE, wrong, "zz")
            self.refused(InvalidTie, exchanged, KITE, TREE, wrong, ("b", "c"))
        for wrong in NO_TIES + TREE:
            self.refused(InvalidTie, ring_closed, KITE, TREE, wrong)
            self.refused(InvalidTie, exchanged, KITE, TREE, ("a", "b"), wrong)
        for wrong in NO_PLACES:
            self.unknown(wrong, side_of, KITE, TREE, ("a", "b"), wrong)

    def test_trees_without_spare_ties(self):
        self.assertEqual(cut_closed(PAIR, PAIR.ties, ("a", "b")), (("a", "b"),))
        self.assertEqual(side_of(PAIR, PAIR.ties, ("a", "b"), "b"), ("b",))
        self.assertEqual(side_of(LINE, LINE.ties, ("b", "c"), "d"), ("c", "d"))
        self.refused(InvalidTie, ring_closed, LINE, LINE.ties, ("b", "c"))
        self.refused(InvalidTie, exchanged, LINE, LINE.ties, ("b", "c"), ("a", "c"))


class Hands(ErrorCase):
    def test_hands_point_along_the_ways_home(self):
        for web in WEBS:
            for tree in trees_of(web, 10):
                for home in web.places:
                    hands = hands_of(web, tree, home)
                    self.assertEqual(list(hands), [place for place in web.places if place != home])
                    for place, other in hands.items():
                        self.assertEqual(way_in(web, tree, place, home)[1], other)
                    self.assertIs(is_hands(web, home, hands), True)
                    self.assertIs(is_hands(web, home, dict(list(hands.items())[::-1])), True)
                    self.assertEqual(tree_of_hands(web, home, dict(list(hands.items())[::-1])), tree)

    def test_all_dicts_to_neighbours(self):
        for web in (PAIR, RING, KITE, FOUR, LINE):
            for home in web.places:
                others = [place for place in web.places if place != home]
                found = []
                for row in product(*[web.places for _ in others]):
                    hands = dict(zip(others, row))
                    expected = self.comes_home(web, home, hands)
                    self.assertIs(is_hands(web, home, hands), expected)
                    if expected:
                        found.append(tree_of_hands(web, home, hands))
                    else:
                        self.refused(InvalidTree, tree_of_hands, web, home, hands)
                self.assertEqual(sorted(found), list(each_tree(web)))

    def comes_home(self, web, home, hands):
        """[6.5] word for word."""
        for place in hands:
            for _ in web.places:
                if place != home:
                    if not web.is_tied(place, hands[place]):
                        return False
                    place = hands[place]
            if place != home:
                return False
        return True

    def test_values_that_are_no_hands(self):
        good = {"a": "b", "b": "d", "c": "a"}
        for value in ALL_STRANGE + (
            {}, {"a": "b", "b": "d"}, dict(good, d="b"), dict(good, e="a"), dict(good, c="c"), dict(good, c=None),
            dict(good, c=("a",)), dict(good, c=["a"]), dict(good, a="d"), dict(good, b="c"), list(good.items()), TREE,
            {"a": "b", "b": "d", "d": "c"}, {"a": "c", "b": "d", "c": "a"}, FLAT,
        ):
            self.assertIs(is_hands(KITE, "d", value), False, value)
            self.refused(InvalidTree, tree_of_hands, KITE, "d", value)

    def test_the_order_of_the_checks(self):
        good = {"a": "b", "b": "d", "c": "a"}
        for wrong in NO_WEBS:
            self.in_order(is_hands, [KITE, "d", good], (0, wrong, InvalidWeb), (1, "zz", UnknownName))
            self.in_order(tree_of_hands, [KITE, "d", good], (0, wrong, InvalidWeb), (1, "zz", UnknownName),
                          (2, {}, InvalidTree))
            self.in_order(hands_of, [KITE, TREE, "d"], (0, wrong, InvalidWeb), (1, TREE[:2], InvalidTree),
                          (2, "zz", UnknownName))
        for wrong in NO_TREES + ALL_STRANGE:
            self.refused(InvalidTree, hands_of, KITE, wrong, "zz")
        for wrong in NO_PLACES:
            self.unknown(wrong, is_hands, KITE, wrong, None)
            self.unknown(wrong, tree_of_hands, KITE, wrong, None)
            self.unknown(wrong, hands_of, KITE, TREE, wrong)

    def test_nothing_is_shared_or_changed(self):
        hands = {"c": "a", "b": "d", "a": "b"}
        self.assertEqual(tree_of_hands(KITE, "d", hands), TREE)
        self.assertEqual(list(hands), ["c", "b", "a"])
        told = hands_of(KITE, TREE, "d")
        told.clear()
        self.assertEqual(hands_of(KITE, TREE, "d"), hands)

    def test_results_are_tuples(self):
        for told in (
            way_in(KITE, TREE, "a", "b"), ring_closed(KITE, TREE, ("b", "c")), cut_closed(KITE, TREE, ("a", "b")),
            side_of(KITE, TREE, ("a", "b"), "a"), exchanged(KITE, TREE, ("a", "b"), ("b", "c")), next(each_tree(KITE)),
        ):
            self.assertIs(type(told), tuple)
        self.assertEqual(len(set(permutations(TREE))), 6)
        self.assertEqual([is_joining_tree(KITE, row) for row in permutations(TREE)].count(True), 1)
        self.assertEqual(Web.of_ties(*TREE).ties, TREE)


if __name__ == "__main__":
    unittest.main()
