"""[13.1] to [13.6]: tour leanings and least leanings."""

import unittest
from itertools import permutations

from owedround.base.rings import each_ring
from owedround.base.tables import Table
from owedround.base.webs import full_web
from owedround.errors import InvalidDrawing, InvalidLeaning, InvalidOperation, InvalidRim, InvalidTable, InvalidTie
from owedround.errors import InvalidTree, UnknownName
from owedround.lean.broken import each_broken
from owedround.lean.leanings import debts_of, is_leaning, is_led
from owedround.owe.debts import Debts
from owedround.tree.joining import count_trees, each_tree
from owedround.turn.least import each_least, is_least, is_right_ring, is_tour_leaning, is_way_to_least, least_of
from owedround.turn.least import right_ring, tour_leaning, tree_by_leaning, way_to_least
from owedround.turn.tours import broken_by
from cases import ErrorCase
from oracles import cut_by_trial, first_side_by_marks, has_ring, is_walked_along, leanings_of, met_by_hand
from oracles import numbers_of, reached_by_marks, ring_by_trial, starts_of, trees_by_trial, with_other_ends
from samples import ALL_STRANGE, CROSS, FLAT, HELD, KITE, LINE, NO_PLACES, OCTA, PAIR, PRISM, RING
from samples import SIX, STAR, TABLES, TAIL, TOUCH, TWIST, WHEEL, grown_drawing, tables_of
from test_hands import some_trees
from test_leanings import AROUND, LATE, NO_LEANINGS, some_leanings, turned_keys

TREE = (("a", "c"), ("b", "c"), ("b", "d"))
TOLD = {("a", "b"): "a", ("a", "c"): "c", ("b", "c"): "b", ("b", "d"): "d", ("c", "d"): "c"}
INNER = ("b", "d", "c")
NO_TABLES = ALL_STRANGE + (FLAT.rounds, KITE, TREE)
SMALL_TABLES = (FLAT, TWIST, STAR, TOUCH, CROSS, Table.plain(PAIR), Table.plain(RING)) + tuple(tables_of(TAIL, 2, 130))
DRAWINGS = (FLAT, STAR, TOUCH, Table.plain(PAIR), Table.plain(LINE), Table.plain(RING), FLAT.mirror) + tuple(
    grown_drawing("abcde", 6, seed) for seed in range(3))
GREAT = (WHEEL, PRISM, OCTA, HELD, grown_drawing("abcdefghi", 18, 7), grown_drawing("abcdefgh", 11, 8))


def led_by_marks(web, leaning, place):
    return len(reached_by_marks(web, leaning, place)) == len(web.places)


def right_rings(table, rim, leaning):
    """All right rings, from their least places on, by [13.4]."""
    told = [ring for ring in each_ring(table.web) if is_walked_along(leaning, ring)]
    return [ring for ring in told if rim in first_side_by_marks(table, ring)]


def turned(leaning, ring):
    """The leaning behind a turned ring."""
    return with_other_ends(leaning, [tuple(sorted(pair)) for pair in zip(ring, ring[1:] + ring[:1])])


class TourLeanings(ErrorCase):
    def check(self, table, tree, place, neighbour):
        web = table.web
        told = tour_leaning(table, tree, place, neighbour)
        met = met_by_hand(table, tree, place, neighbour)
        for tie in web.ties:
            if tie in tree:
                # Who goes on from the end to which it leans does not come to the place.
                side = [one for one in tree if one != tie]
                self.assertFalse(reaches(side, told[tie], place))
            else:
                self.assertEqual(told[tie], met[tie])
        self.assertEqual(list(told), list(web.ties))
        self.assertTrue(led_by_marks(web, told, place))
        broken = broken_by(table, tree, place, neighbour)
        self.assertEqual(debts_of(web, told), broken - Debts.at(web, place))
        return told, list(met)

    def test_all_trees_and_starts(self):
        for table in SMALL_TABLES:
            for start in starts_of(table)[::2]:
                debts = []
                for tree in trees_by_trial(table.web):
                    told, met = self.check(table, tree, *start)
                    debts.append(numbers_of(table.web, told))
                    self.check_rings_and_cuts(table.web, tree, start[0], told, met)
                self.assertEqual(len(set(debts)), len(debts))

    def check_rings_and_cuts(self, web, tree, place, told, met):
        """[13.2]"""
        running = []
        for tie in [tie for tie in web.ties if tie not in tree]:
            ties = ring_by_trial(web, tree, tie)
            steps = [(tie[0] if told[tie] == tie[1] else tie[1], told[tie]) for tie in ties]
            along = len({one for one, _ in steps}) == len({other for _, other in steps}) == len(ties)
            self.assertEqual(along, all(met.index(tie) <= met.index(one) for one in ties))
            running.append(along)
        for tie in tree:
            ties = cut_by_trial(web, tree, tie)
            rest = [one for one in tree if one != tie]
            near = [reaches(rest, told[one], place) for one in ties]
            self.assertEqual(not any(near), all(met.index(tie) <= met.index(one) for one in ties))
            self.assertFalse(all(near))
        self.assertEqual(has_ring(web, told), any(running))

    def test_greater_webs(self):
        for table in GREAT + TABLES:
            for tree in some_trees(table.web, 3):
                for start in starts_of(table)[::9]:
                    self.check(table, tree, *start)

    def test_the_order_of_the_checks(self):
        good = [FLAT, TREE, "a", "b"]
        self.in_order(tour_leaning, good, (0, KITE, InvalidTable), (1, TREE[:2], InvalidTree), (2, "zz", UnknownName),
                      (3, "yy", UnknownName))
        self.in_order(tour_leaning, good, (1, None, InvalidTree), (3, "d", InvalidTie))
        for wrong in NO_TABLES:
            self.in_order(tour_leaning, good, (0, wrong, InvalidTable), (2, wrong, UnknownName))
        for wrong in NO_PLACES:
            self.in_order(tour_leaning, good, (2, wrong, UnknownName), (3, wrong, UnknownName))


def reaches(ties, start, end):
    """Whether one comes from a place to another one along ties."""
    found = {start}
    for _ in ties:
        for a, b in ties:
            if a in found or b in found:
                found |= {a, b}
    return end in found


class ByLeaning(ErrorCase):
    def test_all_leanings_that_are_led(self):
        for table in (FLAT, TWIST, STAR, CROSS, Table.plain(PAIR)):
            web = table.web
            for place, neighbour in starts_of(table)[::3]:
                told = {}
                for tree in trees_by_trial(web):
                    told[tuple(sorted(tour_leaning(table, tree, place, neighbour).items()))] = tree
                by_debts = {numbers_of(web, dict(key)): tree for key, tree in told.items()}
                for leaning in leanings_of(web):
                    key = tuple(sorted(leaning.items()))
                    self.assertIs(is_tour_leaning(table, place, neighbour, turned_keys(leaning)), key in told)
                    if led_by_marks(web, leaning, place):
                        tree = tree_by_leaning(table, turned_keys(leaning), place, neighbour)
                        self.assertEqual(tree, by_debts[numbers_of(web, leaning)])
                    else:
                        self.refused(InvalidOperation, tree_by_leaning, table, leaning, place, neighbour)

    def test_greater_webs(self):
        for table in GREAT + TABLES:
            for tree in some_trees(table.web, 3):
                for start in starts_of(table)[::13]:
                    leaning = tour_leaning(table, tree, *start)
                    self.assertEqual(tree_by_leaning(table, leaning, *start), tree)
                    self.assertIs(is_tour_leaning(table, *start, turned_keys(leaning)), True)
                    ring = [ring for ring in each_ring(table.web) if is_walked_along(leaning, ring)][:1]
                    for one in ring:
                        other = turned(leaning, one)
                        self.assertIs(is_tour_leaning(table, *start, other), False)
                        self.assertEqual(tree_by_leaning(table, other, *start), tree)

    def test_values_near_tour_leanings(self):
        self.assertIs(is_tour_leaning(FLAT, "a", "b", TOLD), True)
        for value in NO_LEANINGS + ALL_STRANGE + (
            LATE, AROUND, {**TOLD, ("a", "b"): "b"}, {**TOLD, ("c", "d"): "d"}, list(TOLD), tuple(TOLD.items()), FLAT,
            {**TOLD, ("a", "b"): ["a"]},
        ):
            expected = value in [tour_leaning(FLAT, tree, "a", "b") for tree in each_tree(KITE)]
            self.assertIs(is_tour_leaning(FLAT, "a", "b", value), expected, value)
        self.assertIs(is_tour_leaning(FLAT, "d", "b", TOLD), False)

    def test_the_order_of_the_checks(self):
        good = [FLAT, TOLD, "a", "b"]
        for wrong in NO_LEANINGS + ALL_STRANGE:
            self.in_order(tree_by_leaning, good, (0, wrong, InvalidTable), (1, wrong, InvalidLeaning),
                          (2, "zz", UnknownName), (3, "yy", UnknownName))
            self.in_order(tree_by_leaning, good, (1, wrong, InvalidLeaning), (3, "d", InvalidTie))
        for wrong in NO_PLACES:
            self.in_order(tree_by_leaning, good, (2, wrong, UnknownName), (3, wrong, UnknownName))
            self.in_order(is_tour_leaning, [FLAT, "a", "b", TOLD], (0, None, InvalidTable), (1, wrong, UnknownName),
                          (2, wrong, UnknownName))
        for wrong in NO_TABLES:
            self.in_order(is_tour_leaning, [FLAT, "a", "b", None], (0, wrong, InvalidTable), (2, "d", InvalidTie))
        # What is not led from the place is told last.
        self.in_order(tree_by_leaning, good, (0, None, InvalidTable), (2, "zz", UnknownName), (3, "d", InvalidTie),
                      (1, {**TOLD, ("a", "c"): "a"}, InvalidOperation))


class RightRings(ErrorCase):
    def test_all_rings_of_all_leanings(self):
        for table in DRAWINGS:
            for leaning in list(leanings_of(table.web))[::3]:
                for rim in table.rims:
                    told = right_rings(table, rim, leaning)
                    for ring in each_ring(table.web):
                        for k in range(len(ring)):
                            value = ring[k:] + ring[:k]
                            self.assertIs(is_right_ring(table, rim, turned_keys(leaning), value), ring in told)
                    self.check_any(table, rim, leaning, told)

    def check_any(self, table, rim, leaning, told):
        found = right_ring(table, rim, turned_keys(leaning))
        self.assertIs(is_least(table, rim, leaning), not told)
        if told:
            least = min(found[k:] + found[:k] for k in range(len(found)))
            self.assertIn(least, told)
            self.assertIs(is_right_ring(table, rim, leaning, found), True)
        else:
            self.assertIsNone(found)

    def test_greater_drawings(self):
        for table in GREAT:
            for leaning in some_leanings(table.web, 4, 131):
                for rim in table.rims[::2]:
                    self.check_any(table, rim, leaning, right_rings(table, rim, leaning))

    def test_values_near_right_rings(self):
        self.assertIs(is_right_ring(FLAT, INNER, TOLD, INNER), True)
        for value in ALL_STRANGE + (
            INNER[::-1], list(INNER), "bdc", ("b", "d"), ("b", "d", "c", "b"), ("b", "d", "a"), ("a", "b", "c"), (),
            FLAT, ("b", "d", 3), TOLD, ("ring", INNER), (("b", "d"), ("d", "c"), ("b", "c")),
        ):
            self.assertIs(is_right_ring(FLAT, INNER, TOLD, value), False, value)


class Least(ErrorCase):
    def test_just_one_of_all_with_equal_debts(self):
        for table in DRAWINGS:
            web = table.web
            for rim in table.rims:
                least = {}
                for leaning in leanings_of(web):
                    if not right_rings(table, rim, leaning):
                        self.assertNotIn(numbers_of(web, leaning), least)
                        least[numbers_of(web, leaning)] = leaning
                for leaning in list(leanings_of(web))[::3]:
                    told = least_of(table, rim, turned_keys(leaning))
                    self.assertEqual(told, least[numbers_of(web, leaning)])
                    self.assertEqual(list(told), list(web.ties))
                    self.check_way(table, rim, leaning)

    def check_way(self, table, rim, leaning):
        rings = way_to_least(table, rim, turned_keys(leaning))
        self.assertIs(type(rings), tuple)
        self.assertTrue(self.judge(table, rim, leaning, rings))
        self.assertIs(is_way_to_least(table, rim, leaning, rings), True)
        self.assertEqual(rings == (), is_least(table, rim, leaning))
        return rings

    def judge(self, table, rim, leaning, rings):
        """[13.5] word for word."""
        for ring in rings:
            if type(ring) is not tuple or not is_walked_along(leaning, ring):
                return False
            if rim not in first_side_by_marks(table, ring):
                return False
            leaning = turned(leaning, ring)
        return not right_rings(table, rim, leaning)

    def test_whichever_ring_is_taken(self):
        for table in DRAWINGS + GREAT:
            for leaning in some_leanings(table.web, 2, 132):
                for rim in table.rims[:2]:
                    expected, rings = least_of(table, rim, leaning), []
                    here = leaning
                    while right_rings(table, rim, here):
                        told = right_rings(table, rim, here)
                        rings.append(told[len(rings) % len(told)])
                        here = turned(here, rings[-1])
                    self.assertEqual(here, expected)
                    self.assertIs(is_way_to_least(table, rim, leaning, tuple(rings)), True)
                    self.check_way(table, rim, leaning)

    def test_rings_left_out_exchanged_and_told_twice(self):
        met = 0
        for table in (FLAT, STAR, WHEEL, OCTA, GREAT[-1]):
            for leaning in some_leanings(table.web, 6, 133):
                for rim in table.rims[:2]:
                    rings = way_to_least(table, rim, leaning)
                    told = [rings + rings, rings[::-1], rings + rings[-1:], rings[:1] + rings, rings[:-1], rings[1:]]
                    told += [rings[:k] + rings[k + 1:] for k in range(len(rings))]
                    told += list(permutations(rings[:3])) if len(rings) < 4 else []
                    told += [tuple(ring[1:] + ring[:1] for ring in rings), tuple(ring[::-1] for ring in rings)]
                    for value in told:
                        expected = self.judge(table, rim, leaning, value)
                        self.assertIs(is_way_to_least(table, rim, leaning, value), expected)
                        met += expected
        self.assertGreater(met, 50)

    def test_every_other_value_is_no_way(self):
        for value in ALL_STRANGE + (
            INNER, [INNER], (list(INNER),), (INNER, None), "bdc", ((),), (INNER, INNER), FLAT, TOLD,
        ):
            self.assertIs(is_way_to_least(FLAT, INNER, TOLD, value), False, value)
            self.assertIs(is_way_to_least(FLAT, ("a", "b", "c"), TOLD, value), value == (), value)
        self.assertIs(is_way_to_least(FLAT, INNER, TOLD, (("d", "c", "b"),)), True)

    def test_tour_leanings_are_least_for_the_rim_of_their_start(self):
        for table in DRAWINGS + GREAT:
            for place, neighbour in starts_of(table)[::5]:
                rim = table.rim_along(place, neighbour)
                for tree in some_trees(table.web, 4):
                    leaning = tour_leaning(table, tree, place, neighbour)
                    self.assertIs(is_least(table, rim, leaning), True)
                    self.assertEqual(right_rings(table, rim, leaning), [])

    def test_the_order_of_the_checks(self):
        for call, last in (
            (is_right_ring, [None]), (right_ring, []), (is_least, []), (least_of, []), (way_to_least, []),
            (is_way_to_least, [None]),
        ):
            good = [FLAT, INNER, TOLD] + last
            for wrong in NO_TABLES:
                self.in_order(call, good, (0, wrong, InvalidTable), (1, None, InvalidRim), (2, None, InvalidLeaning))
            for wrong in (TWIST, CROSS):
                self.in_order(call, good, (0, wrong, InvalidDrawing), (1, None, InvalidRim), (2, None, InvalidLeaning))
            for wrong in ALL_STRANGE + (("d", "c", "b"), ("b", "c", "d"), list(INNER), ("a", "b"), FLAT, "ra"):
                self.in_order(call, good, (1, wrong, InvalidRim), (2, None, InvalidLeaning))
            for wrong in NO_LEANINGS + ALL_STRANGE:
                self.refused(InvalidLeaning, call, FLAT, INNER, wrong, *last)

    def test_nothing_is_shared_or_changed(self):
        leaning = turned_keys(TOLD)
        for rim in FLAT.rims:
            least_of(FLAT, rim, leaning).clear()
            way_to_least(FLAT, rim, leaning)
            self.assertEqual((leaning, list(leaning)), (TOLD, list(TOLD)[::-1]))
        tour_leaning(FLAT, TREE, "a", "b").clear()
        self.assertEqual(tour_leaning(FLAT, TREE, "a", "b"), TOLD)


class AllLeast(ErrorCase):
    def test_all_leanings_of_small_drawings(self):
        for table in DRAWINGS:
            web = table.web
            for rim in table.rims:
                least = [one for one in leanings_of(web) if not right_rings(table, rim, one)]
                for place in web.places:
                    told = list(each_least(table, rim, place))
                    self.assertEqual(told, [one for one in least if led_by_marks(web, one, place)])
                    self.assertEqual(len(told), count_trees(web))
                    for one in told:
                        self.assertEqual(list(one), list(web.ties))

    def test_greater_drawings(self):
        for table in (WHEEL, PRISM, OCTA, GREAT[-1], grown_drawing("abcdefghi", 12, 9)):
            web = table.web
            self.assertLessEqual(count_trees(web), 1000)
            for rim, place in ((table.rims[0], web.places[0]), (table.rims[-1], web.places[-1]), (table.rims[1], "c")):
                told = list(each_least(table, rim, place))
                rows = [tuple(one.values()) for one in told]
                self.assertEqual((len(rows), rows), (count_trees(web), sorted(set(rows))))
                for one in told[::5]:
                    self.assertIs(is_least(table, rim, one), True)
                    self.assertIs(is_led(web, one, place), True)
                debts = sorted(tuple((debts_of(web, one) + Debts.at(web, place)).amounts.values()) for one in told)
                self.assertEqual(debts, [tuple(one.amounts.values()) for one in each_broken(web)])

    def test_the_tour_leanings_are_among_them(self):
        for table in (FLAT, STAR, TOUCH, WHEEL, PRISM):
            for place, neighbour in starts_of(table)[::4]:
                told = list(each_least(table, table.rim_along(place, neighbour), place))
                tours = [tour_leaning(table, tree, place, neighbour) for tree in each_tree(table.web)]
                self.assertEqual(told, sorted(tours, key=lambda one: tuple(one.values())))

    def test_the_order_of_the_checks(self):
        good = [FLAT, INNER, "d"]
        for wrong in NO_TABLES:
            self.in_order(each_least, good, (0, wrong, InvalidTable), (1, None, InvalidRim), (2, "zz", UnknownName))
            each_least(wrong, None, None)  # the error comes with the first result only
        self.in_order(each_least, good, (0, TWIST, InvalidDrawing), (1, None, InvalidRim), (2, "zz", UnknownName))
        for wrong in ALL_STRANGE + (("d", "c", "b"), list(INNER), FLAT):
            self.in_order(each_least, good, (1, wrong, InvalidRim), (2, "zz", UnknownName))
        for wrong in NO_PLACES:
            self.unknown(wrong, each_least, FLAT, INNER, wrong)

    def test_too_many_trees(self):
        table = grown_drawing("abcdefghi", 18, 7)
        self.assertGreater(count_trees(table.web), 1000)
        self.too_many(1000, each_least, table, table.rims[0], "a")
        self.unknown("zz", each_least, table, table.rims[0], "zz")
        each_least(table, table.rims[0], "a")
        self.refused(InvalidDrawing, each_least, Table.plain(SIX), None, "a")
        self.assertEqual(len(list(each_least(STAR, STAR.rims[0], "a"))), count_trees(full_web(tuple("abcd"))))

    def test_one_by_one(self):
        one, other = each_least(FLAT, INNER, "d"), each_least(FLAT, INNER, "d")
        first, then = next(one), next(one)
        self.assertEqual(next(other), first)
        first.clear()
        self.assertEqual(next(other), then)
        self.assertIs(is_leaning(KITE, next(one)), True)


if __name__ == "__main__":
    unittest.main()
