"""[16.1] to [16.4]: papers against a drawing."""

import unittest

from owedround.base.rings import each_ring
from owedround.base.tables import Table, each_table
from owedround.errors import InvalidTable
from owedround.flat.papers import difference_of, disagreement_of, is_difference, is_disagreement, is_unturned_ring
from owedround.flat.papers import unturned_ring
from owedround.owe.classes import each_class
from owedround.owe.debts import Debts, are_alike
from owedround.tree.joining import count_trees, each_tree
from cases import ErrorCase
from oracles import met_by_hand, trees_by_trial, walked_by_hand, walkers_of
from samples import ALL_STRANGE, CROSS, DUMBBELL, FLAT, FOUR, FULLEST, HELD, KITE, LINE, OCTA, PAIR, PRISM, RING, SIX
from samples import STAR, TABLES, TAIL, TOUCH, TWIST, WHEEL, grown_drawing, tables_of
from test_rides import loop_by_hand, step_by_hand, turned_by_hand

TREE = (("a", "b"), ("b", "c"), ("b", "d"))
GAP = Debts.at(KITE, "a") - Debts.at(KITE, "d")
SIXTY = 10 ** 60 - 1
NO_TABLES = ALL_STRANGE + (FLAT.rounds, KITE, TREE)
DRAWINGS = (FLAT, STAR, TOUCH, WHEEL, PRISM, OCTA, HELD) + tuple(
    [Table.plain(web) for web in (PAIR, LINE, RING)] + [grown_drawing("abcdefghi", 18, seed) for seed in range(2)])
# Tables that are no drawings, of webs with few joining trees.
CURLED = [TWIST, CROSS] + [
    table for web in (FOUR, KITE, TAIL, TOUCH.web, WHEEL.web, PRISM.web, DUMBBELL, OCTA.web)
    for table in tables_of(web, 8, 160) if not table.is_drawing]


def acted_by_hand(table, home, tree, debts):
    return walked_by_hand(table, home, tree, *walkers_of(debts, home))


def given_by_hand(table, tree, home):
    """The broken debts that a tour from home makes."""
    met = met_by_hand(table, tree, home, table.rounds[home][0])
    return Debts.at(table.web, *[place for tie, place in met.items() if tie not in tree])


def toured_by_hand(table, home, tree, debts):
    """[12.5] word for word, among all trees."""
    wanted = given_by_hand(table, tree, home) + debts
    return [one for one in each_tree(table.web) if are_alike(given_by_hand(table, one, home), wanted)][0]


def unturned_by_hand(table, ring):
    """[16.3] step by step, for one ride along the ring."""
    hands = dict(zip(ring, ring[1:] + ring[:1]))
    while len(hands) < len(table.web.places):
        for place in table.web.places:
            near = [other for other in table.web.neighbours(place) if other in hands]
            if place not in hands and near:
                hands[place] = near[0]
    ride = (hands, ring[0])
    assert loop_by_hand(ride) == ring
    there = ride
    for _ in range(2 * len(table.web.ties) - 1):
        there = step_by_hand(table, there)
        if there == turned_by_hand(ride):
            return False
    return True


class Found(ErrorCase):
    def check(self, table):
        """Each of the three is there exactly if the table is no drawing, and is what it has to be."""
        web = table.web
        value, other, ring = difference_of(table), disagreement_of(table), unturned_ring(table)
        if table.is_drawing:
            self.assertEqual((value, other, ring), (None, None, None))
            return
        self.assertIs(is_difference(table, value), True)
        self.assertIs(is_disagreement(table, other), True)
        self.assertIs(is_unturned_ring(table, ring), True)
        home, then, tree, debts = value
        self.assertEqual(debts.total, 0)
        self.assertNotEqual(acted_by_hand(table, home, tree, debts), acted_by_hand(table, then, tree, debts))
        home, tree, debts = other
        self.assertEqual((debts.total, debts.web), (0, web))
        self.assertNotEqual(acted_by_hand(table, home, tree, debts), toured_by_hand(table, home, tree, debts))
        self.assertIn(ring, list(each_ring(web)))
        self.assertTrue(unturned_by_hand(table, ring))

    def test_drawings_have_none(self):
        for table in DRAWINGS:
            self.assertTrue(table.is_drawing)
            self.check(table)
            self.check(table.mirror)
        self.assertGreater(count_trees(DRAWINGS[-1].web), 1000)

    def test_all_tables_of_some_webs(self):
        for web in (RING, KITE, FOUR, TOUCH.web, PRISM.web):
            for table in each_table(web):
                self.check(table)

    def test_all_others_have_all_three(self):
        for table in CURLED:
            self.check(table)
        self.assertGreater(len(CURLED), 40)

    def test_too_many_trees(self):
        for table in (Table.plain(SIX), Table.plain(FULLEST)):
            self.assertFalse(table.is_drawing)
            self.too_many(1000, difference_of, table)
            self.too_many(1000, disagreement_of, table)
            ring = unturned_ring(table)
            self.assertIs(is_unturned_ring(table, ring), True)
            self.assertTrue(unturned_by_hand(table, ring))
            web = table.web
            debts = Debts.at(web, "b") - Debts.at(web, "c")
            for tree in list(each_tree(web))[:4]:
                for home in web.places[:3]:
                    unlike = {acted_by_hand(table, home, tree, debts), acted_by_hand(table, "f", tree, debts)}
                    self.assertIs(is_difference(table, (home, "f", tree, debts)), len(unlike) == 2)
                    self.assertIs(is_disagreement(table, (home, tree, debts)), self.gap(table, home, tree, debts))

    def gap(self, table, home, tree, debts):
        """Whether the tree that is acted is not the toured one, by what tours make of both."""
        behind = acted_by_hand(table, home, tree, debts)
        return not are_alike(given_by_hand(table, behind, home), given_by_hand(table, tree, home) + debts)

    def test_wrong_tables(self):
        for wrong in NO_TABLES:
            for call in (difference_of, disagreement_of, unturned_ring):
                self.refused(InvalidTable, call, wrong)
            for call in (is_difference, is_disagreement, is_unturned_ring):
                self.refused(InvalidTable, call, wrong, None)


class Differences(ErrorCase):
    def test_all_values(self):
        for table in (FLAT, TWIST, CROSS):
            trees, found = trees_by_trial(table.web), 0
            for debts in each_class(table.web):
                for tree in trees:
                    told = {home: acted_by_hand(table, home, tree, debts) for home in table.web.places}
                    for home in told:
                        for other in told:
                            expected = told[home] != told[other]
                            self.assertIs(is_difference(table, (home, other, tree, debts)), expected)
                            found += expected
            self.assertEqual(found > 0, not table.is_drawing)

    def test_alike_debts(self):
        for many in (1, -3, 10 ** 3, SIXTY):
            debts = GAP.lent("b", many=many)
            self.assertIs(is_difference(TWIST, ("d", "a", TREE, debts)), True)
            self.assertIs(is_difference(TWIST, ("d", "d", TREE, debts)), False)
            self.assertIs(is_disagreement(TWIST, ("d", TREE, debts)), True)

    def test_values_near_differences(self):
        good = ("d", "a", TREE, GAP)
        self.assertIs(is_difference(TWIST, good), True)
        for value in ALL_STRANGE + (
            good[:3], good + (None,), list(good), ("zz", "a", TREE, GAP), ("d", "zz", TREE, GAP),
            (None, "a", TREE, GAP), (["d"], "a", TREE, GAP), ("d", "a", TREE[:2], GAP), ("d", "a", TREE[::-1], GAP),
            ("d", "a", None, GAP), ("d", "a", list(TREE), GAP), ("d", "a", TREE, None), ("d", "a", TREE, GAP.amounts),
            ("d", "a", GAP, TREE), ("d", "a", TREE, GAP + Debts.at(KITE, "a")), ("d", "a", TREE, Debts.none(KITE)),
            ("d", "a", TREE, Debts.at(FOUR, "a") - Debts.at(FOUR, "d")), ("d", "a", TREE, Debts.none(RING)),
            ("d", "d", TREE, GAP), ("d", TREE, GAP), TWIST, GAP,
        ):
            self.assertIs(is_difference(TWIST, value), False, value)
        for tree in trees_by_trial(KITE):
            self.assertIs(is_difference(FLAT, ("d", "a", tree, GAP)), False)


class Disagreements(ErrorCase):
    def test_all_values(self):
        for table in (FLAT, TWIST, CROSS):
            trees, found = trees_by_trial(table.web), 0
            for debts in each_class(table.web):
                for tree in trees:
                    for home in table.web.places:
                        expected = acted_by_hand(table, home, tree, debts) != toured_by_hand(table, home, tree, debts)
                        self.assertIs(is_disagreement(table, (home, tree, debts)), expected)
                        found += expected
            self.assertEqual(found > 0, not table.is_drawing)

    def test_values_near_disagreements(self):
        good = ("d", TREE, GAP)
        self.assertIs(is_disagreement(TWIST, good), True)
        for value in ALL_STRANGE + (
            good[:2], good + (None,), list(good), ("zz", TREE, GAP), (["d"], TREE, GAP), (4, TREE, GAP),
            ("d", TREE[:2], GAP), ("d", TREE[::-1], GAP), ("d", None, GAP), ("d", TREE, None), ("d", TREE, GAP.amounts),
            ("d", GAP, TREE), ("d", TREE, GAP + Debts.at(KITE, "a")), ("d", TREE, Debts.none(KITE)),
            ("d", TREE, Debts.none(FOUR)), ("d", TREE, Debts.at(FOUR, "a") - Debts.at(FOUR, "d")),
            ("d", "a", TREE, GAP), TWIST, GAP,
        ):
            self.assertIs(is_disagreement(TWIST, value), False, value)
        for tree in trees_by_trial(KITE):
            for home in KITE.places:
                self.assertIs(is_disagreement(FLAT, (home, tree, GAP)), False)

    def test_some_home_can_agree_with_all_tours(self):
        # At some home of a table that is no drawing there may be none, but not at all of them.
        found = set()
        for table in CURLED:
            if count_trees(table.web) <= 16:
                for home in table.web.places:
                    found |= {any(is_disagreement(table, (home, tree, debts))
                                  for tree in each_tree(table.web) for debts in each_class(table.web))}
        self.assertEqual(found, {True, False})


class Rings(ErrorCase):
    def test_all_rings_from_each_place_on(self):
        for table in (FLAT, STAR, TWIST, CROSS, TOUCH) + tuple(CURLED[::6]):
            found = 0
            for ring in each_ring(table.web):
                expected = unturned_by_hand(table, ring)
                for k in range(len(ring)):
                    value = ring[k:] + ring[:k]
                    self.assertIs(is_unturned_ring(table, value), expected)
                    self.assertIs(is_unturned_ring(table, value[::-1]), expected)
                found += expected
            self.assertEqual(found > 0, not table.is_drawing)

    def test_some_rings_of_no_drawing_are_turned(self):
        told = [[is_unturned_ring(table, ring) for ring in each_ring(table.web)] for table in CURLED]
        self.assertTrue(any(False in row for row in told))
        self.assertTrue(all(True in row for row in told))

    def test_values_near_rings(self):
        self.assertIs(is_unturned_ring(TWIST, ("c", "b", "a")), True)
        for value in ALL_STRANGE + (
            ["c", "b", "a"], "cba", ("c", "b"), ("a", "b", "d"), ("a", "b", "c", "a"), ("a", "b", "c", "e"), (1, 2, 3),
            ("a", "b", None), TWIST, GAP, TREE,
        ):
            self.assertIs(is_unturned_ring(TWIST, value), False, value)

    def test_from_the_least_place_on(self):
        for table in CURLED + [table for table in TABLES if not table.is_drawing]:
            ring = unturned_ring(table)
            self.assertEqual(ring[0], min(ring))
            self.assertIn(ring, list(each_ring(table.web)))


if __name__ == "__main__":
    unittest.main()
