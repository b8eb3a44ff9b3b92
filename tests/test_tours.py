"""[12.1] to [12.5]: tours."""

import unittest
from itertools import product

from owedround.base.tables import Table, each_table
from owedround.errors import InvalidDebts, InvalidOperation, InvalidTable, InvalidTie, InvalidTree, UnknownName
from owedround.lean.broken import each_broken, is_broken
from owedround.owe.classes import each_class
from owedround.owe.debts import Debts, are_alike
from owedround.tree.joining import way_in
from owedround.turn.tours import broken_by, first_met, tour, toured, tree_by
from cases import ErrorCase
from oracles import behind_by_hand, met_by_hand, starts_of, tour_by_hand, trees_by_trial
from samples import ALL_STRANGE, CROSS, DUMBBELL, FLAT, FOUR, FULLEST, HELD, KITE, LINE, NO_PLACES, OCTA, ODD, PAIR
from samples import PRISM, RING, STAR, TABLES, TAIL, TOUCH, TWIST, WHEEL, debts_with_total, tables_of
from test_hands import some_trees

SIXTY = 10 ** 60 - 1
TREE = (("a", "b"), ("b", "c"), ("b", "d"))
NO_TABLES = ALL_STRANGE + (FLAT.rounds, KITE, TREE)
NO_TREES = ALL_STRANGE + (TREE[::-1], TREE[:2], list(TREE), KITE.ties, (("a", "b"), ("a", "c"), ("b", "c")), FLAT)
SMALL_TABLES = (FLAT, TWIST, STAR, TOUCH, CROSS, Table.plain(PAIR), Table.plain(LINE), Table.plain(RING)) + tuple(
    tables_of(FOUR, 2, 120) + tables_of(TAIL, 2, 121))
GREAT_TABLES = (WHEEL, PRISM, OCTA, HELD, Table.plain(DUMBBELL), Table.plain(ODD)) + TABLES + tuple(
    tables_of(FULLEST, 2, 122))


class Tours(ErrorCase):
    def check(self, table, tree, place, neighbour):
        told = tour(table, tree, place, neighbour)
        self.assertEqual(told, tour_by_hand(table, tree, place, neighbour))
        self.assertEqual(told[0], (place, neighbour))
        self.assertEqual(sorted(told), sorted(starts_of(table)))
        for (here, other), then in zip(told, told[1:] + told[:1]):
            if tuple(sorted((here, other))) in tree:
                self.assertEqual(then, (other, behind_by_hand(table, other, here)))
            else:
                self.assertEqual(then, (here, behind_by_hand(table, here, other)))

    def test_all_trees_and_starts(self):
        for table in SMALL_TABLES:
            for tree in trees_by_trial(table.web):
                for start in starts_of(table):
                    self.check(table, tree, *start)

    def test_greater_webs(self):
        for table in GREAT_TABLES:
            for tree in some_trees(table.web):
                for start in starts_of(table)[::7]:
                    self.check(table, tree, *start)

    def test_first_met(self):
        for table in SMALL_TABLES + GREAT_TABLES:
            for tree in some_trees(table.web, 4):
                for start in starts_of(table)[::5]:
                    told = first_met(table, tree, *start)
                    self.assertEqual(list(told.items()), list(met_by_hand(table, tree, *start).items()))
                    self.assertEqual(sorted(told), list(table.web.ties))
                    for tie in tree:
                        ways = [len(way_in(table.web, tree, start[0], end)) for end in tie]
                        self.assertEqual(told[tie], tie[ways.index(min(ways))])

    def test_the_order_of_the_checks(self):
        for call in (tour, first_met, broken_by):
            good = [FLAT, TREE, "a", "b"]
            self.in_order(call, good, (0, KITE, InvalidTable), (1, TREE[:2], InvalidTree), (2, "zz", UnknownName),
                          (3, "yy", UnknownName))
            for wrong in NO_TABLES:
                self.in_order(call, good, (0, wrong, InvalidTable), (1, None, InvalidTree), (3, "d", InvalidTie))
            for wrong in NO_TREES:
                self.in_order(call, good, (1, wrong, InvalidTree), (2, "zz", UnknownName), (3, "d", InvalidTie))
            for wrong in NO_PLACES:
                self.in_order(call, good, (1, None, InvalidTree), (2, wrong, UnknownName), (3, wrong, UnknownName))
            for wrong in ("a", "d"):
                self.refused(InvalidTie, call, FLAT, TREE, "a", wrong)

    def test_nothing_is_shared(self):
        first_met(FLAT, TREE, "a", "b").clear()
        self.assertEqual(len(first_met(FLAT, TREE, "a", "b")), 5)


class BrokenBy(ErrorCase):
    def numbers(self, table, tree, start):
        """What the places are given by the ties off the tree, counted here."""
        met = met_by_hand(table, tree, *start)
        given = [place for tie, place in met.items() if tie not in tree]
        return {place: given.count(place) for place in table.web.places}

    def test_all_broken_debts_once(self):
        for table in SMALL_TABLES + (WHEEL,):
            broken = [debts.amounts for debts in each_broken(table.web)]
            for start in starts_of(table)[::2]:
                told = []
                for tree in trees_by_trial(table.web):
                    debts = broken_by(table, tree, *start)
                    self.assertEqual(debts.amounts, self.numbers(table, tree, start))
                    self.assertEqual(debts.web, table.web)
                    self.assertIs(is_broken(debts), True)
                    told.append(debts.amounts)
                    self.assertEqual(tree_by(table, debts, *start), tree)
                self.assertEqual(sorted(told, key=lambda one: tuple(one.values())), broken)

    def test_all_tables_of_two_webs(self):
        for web in (KITE, FOUR):
            for table in each_table(web):
                for tree in trees_by_trial(web):
                    for start in starts_of(table)[::4]:
                        self.assertEqual(tree_by(table, broken_by(table, tree, *start), *start), tree)

    def test_greater_webs(self):
        for table in GREAT_TABLES:
            for tree in some_trees(table.web, 3):
                for start in starts_of(table)[::11]:
                    debts = broken_by(table, tree, *start)
                    self.assertEqual(debts.amounts, self.numbers(table, tree, start))
                    self.assertEqual(tree_by(table, debts, *start), tree)

    def test_other_starts(self):
        # [12.4]
        for table in SMALL_TABLES:
            web = table.web
            for tree in trees_by_trial(web):
                for q, u in starts_of(table):
                    w, v = behind_by_hand(table, q, u), behind_by_hand(table, u, q)
                    first = broken_by(table, tree, q, u)
                    moved = first.moved(q, u)
                    self.assertIs(are_alike(broken_by(table, tree, q, w), moved), True)
                    if tuple(sorted((q, u))) in tree:
                        self.assertEqual(broken_by(table, tree, u, v), first)
                    else:
                        self.assertEqual(broken_by(table, tree, q, w), moved)

    def test_debts_that_are_not_broken(self):
        for wrong in (
            Debts.none(KITE), Debts.at(KITE, "a", "a"), Debts.at(KITE, "a"), Debts.at(KITE, "b", "c", "d"),
            -Debts.at(KITE, "b", "c"), Debts.none(KITE).moved("a", "b", many=SIXTY),
            Debts.from_lines(KITE, "a owes 1", "b has 3"),
        ):
            self.refused(InvalidOperation, tree_by, FLAT, wrong, "a", "b")
            self.unknown("zz", tree_by, FLAT, wrong, "zz", "b")
            self.unknown("zz", tree_by, FLAT, wrong, "a", "zz")
            self.refused(InvalidTie, tree_by, FLAT, wrong, "a", "d")
        for table in SMALL_TABLES:
            broken = list(each_broken(table.web))
            for debts in broken + debts_with_total(table.web, table.web.spare, 6, 123, most=2):
                start = starts_of(table)[-1]
                moved = debts.moved(table.web.places[0], table.web.places[-1])
                if moved in broken:
                    self.assertEqual(broken_by(table, tree_by(table, moved, *start), *start), moved)
                else:
                    self.refused(InvalidOperation, tree_by, table, moved, *start)

    def test_the_order_of_the_checks(self):
        good = [FLAT, Debts.at(KITE, "c", "c"), "a", "b"]
        for other in (Debts.none(RING), Debts.at(FOUR, "c", "c")):
            self.in_order(tree_by, good, (0, KITE, InvalidTable), (1, other, InvalidOperation), (2, "zz", UnknownName),
                          (3, "yy", UnknownName))
        for wrong in ALL_STRANGE + (good[1].amounts, FLAT, TREE):
            self.in_order(tree_by, good, (0, None, InvalidTable), (1, wrong, InvalidDebts), (3, "d", InvalidTie))
        for wrong in NO_PLACES:
            self.in_order(tree_by, good, (1, None, InvalidDebts), (2, wrong, UnknownName), (3, wrong, UnknownName))


class Toured(ErrorCase):
    def check(self, table, home, tree, debts):
        """[12.5], with each neighbour of the home."""
        told = toured(table, home, tree, debts)
        for neighbour in table.rounds[home]:
            gap = broken_by(table, told, home, neighbour) - broken_by(table, tree, home, neighbour)
            self.assertIs(are_alike(gap, debts), True)
        return told

    def test_from_each_tree_to_each_tree(self):
        for table in (FLAT, TWIST, STAR, CROSS, Table.plain(RING), Table.plain(LINE)):
            trees = trees_by_trial(table.web)
            for home in table.web.places:
                for tree in trees[::2]:
                    told = [self.check(table, home, tree, debts) for debts in each_class(table.web)]
                    self.assertEqual(sorted(told), trees)

    def test_alike_debts_sums_and_opposites(self):
        for table in SMALL_TABLES:
            web, home = table.web, table.web.places[-1]
            one, other = debts_with_total(web, 0, 2, 124, most=1000)
            for tree in trees_by_trial(web)[::3]:
                told = self.check(table, home, tree, one)
                self.assertEqual(toured(table, home, tree, one.lent("a", many=-9).lent_together(("a", "b"))), told)
                self.assertEqual(toured(table, home, told, -one), tree)
                self.assertEqual(toured(table, home, told, other), toured(table, home, tree, one + other))
                back = toured(table, home, toured(table, home, tree, other), one)
                self.assertEqual(back, toured(table, home, tree, other + one))
                self.assertEqual(toured(table, home, tree, Debts.none(web)), tree)

    def test_greater_webs(self):
        for table in GREAT_TABLES:
            web = table.web
            far = Debts.none(web).moved(web.places[0], web.places[-1], many=SIXTY)
            for tree, debts in product(some_trees(web, 2), debts_with_total(web, 0, 1, 125, most=1000) + [far]):
                for home in (web.places[0], web.places[-1]):
                    self.check(table, home, tree, debts)

    def test_the_order_of_the_checks(self):
        good = [FLAT, "a", TREE, Debts.at(KITE, "b") - Debts.at(KITE, "c")]
        for wrong, error in (
            (None, InvalidDebts), (good[3].amounts, InvalidDebts), (Debts.none(RING), InvalidOperation),
            (Debts.at(FOUR, "a"), InvalidOperation), (Debts.at(KITE, "a"), InvalidOperation),
        ):
            self.in_order(toured, good, (0, KITE, InvalidTable), (1, "zz", UnknownName), (2, TREE[:2], InvalidTree),
                          (3, wrong, error))
        for wrong in ALL_STRANGE:
            self.in_order(toured, good, (0, wrong, InvalidTable), (3, wrong, InvalidDebts))
        for wrong in NO_PLACES:
            self.in_order(toured, good, (1, wrong, UnknownName), (2, None, InvalidTree))
        for wrong in NO_TREES:
            self.in_order(toured, good, (2, wrong, InvalidTree), (3, None, InvalidDebts))


if __name__ == "__main__":
    unittest.main()
