"""[10.1] to [10.7]: hands and walkers."""

import unittest
from itertools import permutations, product

from owedround.base.tables import each_table
from owedround.errors import InvalidDebts, InvalidOperation, InvalidTable, InvalidTree, UnknownName
from owedround.owe.burning import each_reduced, is_reduced, reduced
from owedround.owe.classes import each_class, order_of
from owedround.owe.debts import Debts, are_alike
from owedround.turn.hands import acted, leading, sent, turns_made, walk, walked, walked_back, walks_back
from cases import ErrorCase
from oracles import behind_by_hand, hands_by_hand, tree_by_hand, trees_by_trial, walk_by_hand
from oracles import walked_by_hand, walkers_of
from samples import ALL_STRANGE, CROSS, DUMBBELL, FLAT, FOUR, FULLEST, KITE, NO_PLACES, RING, STAR, TABLES, TAIL
from samples import TOUCH, TWIST, WHEEL, debts_with_total, tables_of
from owedround.base.tables import Table
from owedround.tree.joining import each_tree

SIXTY = 10 ** 60 - 1
TREE = (("a", "b"), ("b", "c"), ("b", "d"))
GAP = Debts.at(KITE, "a") - Debts.at(KITE, "d")
SMALL_TABLES = (FLAT, TWIST, STAR, TOUCH, CROSS, WHEEL) + tuple(tables_of(FOUR, 2, 100) + tables_of(TAIL, 2, 101))
NO_TABLES = ALL_STRANGE + (FLAT.rounds, KITE, GAP)
NO_TREES = ALL_STRANGE + (TREE[::-1], TREE[:2], list(TREE), KITE.ties, (("a", "b"), ("a", "c"), ("b", "c")), FLAT)
NO_DEBTS = ALL_STRANGE + (GAP.amounts, FLAT, TREE)
# How the checks of the first three arguments come.
FIRST = ((0, KITE, InvalidTable), (1, "zz", UnknownName), (2, TREE[:2], InvalidTree))


def some_trees(web, many=6):
    trees = list(each_tree(web))
    return trees[::max(1, len(trees) // many)]


class Walks(ErrorCase):
    def check(self, table, home, tree, place):
        hands = hands_by_hand(tree, home)
        self.assertEqual(walk(table, home, tree, place), walk_by_hand(table, hands, home, place))
        behind = walked(table, home, tree, place)
        self.assertEqual(behind, tree_by_hand(hands))
        self.assertEqual(walked_back(table, home, behind, place), tree)

    def test_all_trees_places_and_homes(self):
        for table in SMALL_TABLES:
            trees = trees_by_trial(table.web)
            for home, place in product(table.web.places, repeat=2):
                for tree in trees:
                    self.check(table, home, tree, place)
                behind = [walked(table, home, tree, place) for tree in trees]
                self.assertEqual(sorted(behind), trees)

    def test_all_tables_of_two_webs(self):
        for web in (KITE, FOUR):
            for table in each_table(web):
                for tree in trees_by_trial(web):
                    self.check(table, "a", tree, "c")

    def test_greater_webs(self):
        for table in TABLES + tuple(tables_of(FULLEST, 3, 102)):
            for tree in some_trees(table.web):
                for home, place in (table.web.places[:2], table.web.places[-2:], table.web.places[-1:] * 2):
                    self.check(table, home, tree, place)

    def test_a_walker_who_begins_at_home_turns_nothing(self):
        for table in TABLES:
            tree = some_trees(table.web)[0]
            for home in table.web.places:
                self.assertEqual(walk(table, home, tree, home), (home,))
                self.assertEqual(walked(table, home, tree, home), tree)
                self.assertEqual(walked_back(table, home, tree, home), tree)

    def test_the_order_of_the_checks(self):
        for call in (walk, walked, walked_back, walks_back, sent):
            good = [FLAT, "a", TREE, "b"]
            self.in_order(call, good, *FIRST, (3, "zz", UnknownName))
            for wrong in NO_TABLES:
                self.in_order(call, good, (0, wrong, InvalidTable), (1, "zz", UnknownName))
            for wrong in NO_PLACES:
                self.in_order(call, good, (1, wrong, UnknownName), (2, None, InvalidTree), (3, wrong, UnknownName))
            for wrong in NO_TREES:
                self.in_order(call, good, (2, wrong, InvalidTree), (3, "zz", UnknownName))


class Sent(ErrorCase):
    def test_the_order_of_the_walkers_does_not_matter(self):
        for table in SMALL_TABLES:
            home = table.web.places[1]
            for tree in trees_by_trial(table.web)[::3]:
                for walkers in (("a", "c"), ("a", "a", "c"), ("d", "b", "a", "c"), ("c", "d", "c")):
                    told = {sent(table, home, tree, *row) for row in permutations(walkers)}
                    self.assertEqual(told, {walked_by_hand(table, home, tree, *walkers)})

    def test_without_any(self):
        for table in TABLES:
            tree = some_trees(table.web)[-1]
            self.assertEqual(sent(table, table.web.places[0], tree), tree)

    def test_the_first_value_that_is_no_place(self):
        for wrong in NO_PLACES:
            self.unknown(wrong, sent, FLAT, "a", TREE, "b", wrong, "zz")
            self.unknown(wrong, sent, FLAT, "a", TREE, wrong, "c")
        self.in_order(sent, [FLAT, "a", TREE, "b", "c"], *FIRST, (3, "x", UnknownName), (4, "y", UnknownName))


class Acts(ErrorCase):
    def check(self, table, home, tree, debts):
        walkers = walkers_of(debts, home)
        self.assertEqual(acted(table, home, tree, debts), walked_by_hand(table, home, tree, *walkers))
        hands, turns = hands_by_hand(tree, home), {place: 0 for place in table.web.places if place != home}
        for walker in walkers:
            for place in walk_by_hand(table, hands, home, walker)[:-1]:
                turns[place] += 1
        told = turns_made(table, home, tree, debts)
        self.assertEqual((told, list(told)), (turns, list(turns)))

    def test_all_classes_trees_and_homes(self):
        for table in (FLAT, TWIST, STAR, CROSS):
            for home in table.web.places:
                for debts in each_class(table.web):
                    for tree in trees_by_trial(table.web):
                        self.check(table, home, tree, debts)

    def test_debts_behind_lendings(self):
        for table in SMALL_TABLES:
            web, home = table.web, table.web.places[-1]
            for debts in debts_with_total(web, 0, 4, 103):
                plan = {place: 3 * at - 5 for at, place in enumerate(web.places)}
                for tree in trees_by_trial(web)[::4]:
                    told = acted(table, home, tree, debts)
                    for other in (debts.lent("a", many=-7), debts.lent_together(("a", "b")), debts.after(plan)):
                        self.assertEqual(acted(table, home, tree, other), told)
                        self.assertEqual(turns_made(table, home, tree, other), turns_made(table, home, tree, debts))
                    self.check(table, home, tree, debts)

    def test_sums_opposites_and_nothing(self):
        for table in SMALL_TABLES:
            web, home = table.web, table.web.places[1]
            one, other = debts_with_total(web, 0, 2, 104, most=9)
            for tree in trees_by_trial(web)[::2]:
                behind = acted(table, home, tree, one)
                self.assertEqual(acted(table, home, behind, other), acted(table, home, tree, one + other))
                self.assertEqual(acted(table, home, behind, -one), tree)
                self.assertEqual(acted(table, home, tree, Debts.none(web)), tree)
                self.assertEqual(set(turns_made(table, home, tree, Debts.none(web)).values()), {0})
                step = Debts.at(web, "c") - Debts.at(web, home)
                self.assertEqual(acted(table, home, tree, step), walked(table, home, tree, "c"))
                self.assertEqual(acted(table, home, tree, one + 2 * step), sent(table, home, behind, "c", "c"))

    def test_great_numbers(self):
        for table in TABLES:
            web, home = table.web, table.web.places[0]
            many = debts_with_total(web, 0, 2, 105, most=1000)
            many.append(Debts.none(web).moved(web.places[0], web.places[-1], many=SIXTY))
            for debts in many:
                for tree in some_trees(web, 3):
                    behind = acted(table, home, tree, debts)
                    self.assertEqual(behind, acted(table, home, tree, reduced(debts, home)))
                    self.assertIs(are_alike(leading(table, home, tree, behind), debts), True)
                    self.assertEqual(acted(table, home, behind, -debts), tree)
                    turns = turns_made(table, home, tree, debts)
                    self.assertEqual(list(turns), [place for place in web.places if place != home])

    def test_the_order_of_the_checks(self):
        other = Debts.none(RING)
        for call in (acted, turns_made):
            good = [FLAT, "a", TREE, GAP]
            self.in_order(call, good, *FIRST, (3, None, InvalidDebts))
            self.in_order(call, good, *FIRST, (3, Debts.at(KITE, "a"), InvalidOperation))
            for wrong in (other, Debts.at(RING, "a"), Debts.none(FOUR), Debts.at(KITE, "a"), -Debts.at(KITE, "b")):
                self.refused(InvalidOperation, call, FLAT, "a", TREE, wrong)
            for wrong in NO_DEBTS:
                self.in_order(call, good, (2, None, InvalidTree), (3, wrong, InvalidDebts))
            for wrong in NO_PLACES:
                self.in_order(call, good, (1, wrong, UnknownName), (3, other, InvalidOperation))


class Leads(ErrorCase):
    def test_from_each_tree_to_each_tree(self):
        for table in SMALL_TABLES[:5]:
            trees = trees_by_trial(table.web)
            for home in table.web.places:
                for one in trees:
                    told = [leading(table, home, one, other) for other in trees]
                    self.assertEqual([acted(table, home, one, debts) for debts in told], trees)
                    for debts in told:
                        self.assertEqual(debts.total, 0)
                        self.assertIs(is_reduced(debts, home), True)
                    # Just one class leads to each tree: so all classes are told.
                    rows = sorted(tuple(debts) for debts in told)
                    self.assertEqual(rows, sorted(tuple(debts) for debts in each_reduced(table.web, home, 0)))

    def test_one_turn_onto_the_neighbour_of_the_home(self):
        # [10.5]
        for table in SMALL_TABLES:
            for home in table.web.places:
                for tree in trees_by_trial(table.web)[::2]:
                    for place, other in hands_by_hand(tree, home).items():
                        if behind_by_hand(table, place, other) == home:
                            new = tree_by_hand({**hands_by_hand(tree, home), place: home})
                            step = Debts.at(table.web, place) - Debts.at(table.web, home)
                            self.assertEqual(acted(table, home, tree, step), new)
                            self.assertIs(are_alike(leading(table, home, tree, new), step), True)

    def test_turns_from_hands_to_hands(self):
        # [10.6]
        for table in SMALL_TABLES:
            web, home = table.web, table.web.places[2]
            trees = trees_by_trial(web)
            for one, other in product(trees[::5], trees[::3]):
                hands, wanted = hands_by_hand(one, home), hands_by_hand(other, home)
                amounts = {place: 0 for place in web.places}
                for place in hands:
                    while hands[place] != wanted[place]:
                        hands[place] = behind_by_hand(table, place, hands[place])
                        amounts[place] += 1
                        amounts[hands[place]] -= 1
                debts = Debts(web, amounts)
                self.assertEqual(acted(table, home, one, debts), other)
                self.assertEqual(leading(table, home, one, other), reduced(debts, home))

    def test_greater_webs(self):
        for table in TABLES + tuple(tables_of(FULLEST, 2, 106)):
            trees = some_trees(table.web, 4)
            for one, other in product(trees, repeat=2):
                for home in (table.web.places[0], table.web.places[-1]):
                    debts = leading(table, home, one, other)
                    self.assertEqual(acted(table, home, one, debts), other)
                    self.assertEqual(debts.is_free or debts.owing == (home,), True)

    def test_the_order_of_the_checks(self):
        self.in_order(leading, [FLAT, "a", TREE, TREE], *FIRST, (3, TREE[::-1], InvalidTree))
        for wrong in NO_TREES:
            self.refused(InvalidTree, leading, FLAT, "a", TREE, wrong)
            self.refused(InvalidTree, leading, FLAT, "a", wrong, TREE)
            self.unknown("zz", leading, FLAT, "zz", wrong, TREE)


class Returns(ErrorCase):
    def test_walks_until_the_tree_is_there_again(self):
        for table in SMALL_TABLES:
            for home, place in product(table.web.places, repeat=2):
                for tree in trees_by_trial(table.web)[::3]:
                    many, behind = 1, walked(table, home, tree, place)
                    while behind != tree:
                        many, behind = many + 1, walked(table, home, behind, place)
                    self.assertEqual(walks_back(table, home, tree, place), many)

    def test_the_order_of_the_debts(self):
        for table in TABLES + (Table.plain(DUMBBELL),):
            for tree in some_trees(table.web, 2):
                for home, place in product(table.web.places, repeat=2):
                    debts = Debts.at(table.web, place) - Debts.at(table.web, home)
                    self.assertEqual(walks_back(table, home, tree, place), order_of(debts))


class Apart(ErrorCase):
    def test_nothing_is_shared_or_changed(self):
        told = turns_made(FLAT, "d", TREE, GAP)
        told["a"] = 77
        told.clear()
        self.assertEqual(turns_made(FLAT, "d", TREE, GAP), {"a": 3, "b": 1, "c": 2})
        leading(FLAT, "d", TREE, TREE).amounts.clear()
        self.assertEqual(leading(FLAT, "d", TREE, TREE), Debts.none(KITE))
        self.assertEqual(GAP.lines, ("a has 1", "d owes 1"))


if __name__ == "__main__":
    unittest.main()
