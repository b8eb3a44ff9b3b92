"""[9.2], [9.3], [12.3] and [12.5] for many trees and debts of one web after the other."""

import random
import time
import unittest

from owedround.base.tables import Table
from owedround.errors import InvalidOperation
from owedround.lean.broken import broken_alike, broken_leaning, breaking, is_breaking, is_broken, lacking
from owedround.lean.leanings import debts_of, is_led
from owedround.owe.debts import Debts, are_alike
from owedround.tree.joining import count_trees, each_tree
from owedround.turn.tours import broken_by, toured, tree_by
from cases import ErrorCase
from oracles import met_by_hand, sets_of, starts_of
from samples import FLAT, FULL_FIVE, FULLEST, SIX, TWIST, debts_with_total, joined, tables_of

# All ties but two, which have no place in common, or have one.
FIVE = FULL_FIVE.without_tie("a", "d").without_tie("b", "e")
SKEW = FULL_FIVE.without_tie("a", "b").without_tie("a", "c")
# A ring of eight places, each of which is tied to a ninth one; drawn as it stands here.
EIGHT = Table.from_lines(
    "a: b i h", "b: a c i", "c: b d i", "d: c e i", "e: d f i", "f: e g i", "g: f h i", "h: a i g", "i: a b c d e f g h"
)
SMALL_TABLES = (FLAT, TWIST, Table.plain(FIVE), Table.plain(SKEW)) + tuple(tables_of(FIVE, 2, 500))
SIX_TABLES = (Table.plain(SIX),) + tuple(tables_of(SIX, 1, 501))
GREAT_TABLES = (EIGHT, Table.plain(FULLEST)) + tuple(tables_of(EIGHT.web, 1, 502) + tables_of(FULLEST, 2, 503))


def drawn_tree(web, rnd):
    """Some joining tree: ties, as they are drawn, that close no ring."""
    part = {place: place for place in web.places}
    tree = []
    for a, b in rnd.sample(web.ties, len(web.ties)):
        if part[a] != part[b]:
            gone, stays = part[a], part[b]
            part = {place: stays if one == gone else one for place, one in part.items()}
            tree.append((a, b))
    return tuple(sorted(tree))


def drawn_trees(web, many, seed):
    """Some different joining trees of a web, always the same ones."""
    rnd = random.Random(seed)
    found = {}
    while len(found) < many:
        found[drawn_tree(web, rnd)] = True
    return list(found)


def spares_of(web):
    """The pairs of each set that hangs together and its spare number [9.2]."""
    told = []
    for places in sets_of(web.places):
        within = [tie for tie in web.ties if set(tie) <= set(places)]
        if joined(places, within):
            told.append((places, len(within) - len(places) + 1))
    return told


def drawn_debts(web, many, seed):
    """Some debts, some of which are broken or nearly so: with few owing places, and mostly the spare number."""
    rnd = random.Random(seed)
    told = debts_with_total(web, web.spare, many // 4, seed, most=2)
    while len(told) < many:
        given = [rnd.choice(web.places) for _ in range(web.spare + rnd.choice((0, 0, 0, 0, 1, -1)))]
        told.append(Debts.at(web, *given))
        # One end of each tie off some tree: so these are broken, and those behind them are hardly.
        tree = drawn_tree(web, rnd)
        broken = Debts.at(web, *[rnd.choice(tie) for tie in web.ties if tie not in tree])
        told += [broken, broken.moved(rnd.choice(web.places), rnd.choice(web.places))]
    return told


class ThereAndBack(ErrorCase):
    def check(self, table, tree, start):
        """The broken debts, counted here, lead back to the tree."""
        met = met_by_hand(table, tree, *start)
        given = [place for tie, place in met.items() if tie not in tree]
        debts = Debts(table.web, {place: given.count(place) for place in table.web.places})
        self.assertEqual(broken_by(table, tree, *start), debts)
        self.assertEqual(tree_by(table, debts, *start), tree)
        return tuple(debts.amounts.values())

    def test_all_trees_and_starts_of_small_webs(self):
        for table in SMALL_TABLES:
            for start in starts_of(table):
                told = [self.check(table, tree, start) for tree in each_tree(table.web)]
                self.assertEqual(len(set(told)), len(told))

    def test_all_trees_of_the_full_web_of_six_places(self):
        for table in SIX_TABLES:
            for start in starts_of(table)[2::14]:
                told = [self.check(table, tree, start) for tree in each_tree(SIX)]
                self.assertEqual((len(told), len(set(told))), (1296, 1296))

    def test_drawn_trees_of_nine_places(self):
        for table in GREAT_TABLES:
            trees = drawn_trees(table.web, 150, 504)
            for start in starts_of(table)[1::7]:
                told = [self.check(table, tree, start) for tree in trees]
                self.assertEqual(len(set(told)), len(told))

    def test_each_start_of_nine_places(self):
        for table in GREAT_TABLES:
            for start in starts_of(table):
                for tree in drawn_trees(table.web, 4, 505):
                    self.check(table, tree, start)

    def test_equal_calls(self):
        table, tree = GREAT_TABLES[1], drawn_trees(FULLEST, 1, 506)[0]
        debts = broken_by(table, tree, "a", "b")
        lines = debts.lines
        for _ in range(3):
            self.assertEqual(tree_by(table, debts, "a", "b"), tree)
            self.assertEqual(toured(table, "a", tree, Debts.none(FULLEST)), tree)
        self.assertEqual((debts.lines, is_broken(debts)), (lines, True))


class Judged(ErrorCase):
    def check(self, table, start, debts, spares):
        """is_broken, held against [9.2], and tree_by, which refuses what is not broken."""
        web = table.web
        fits = debts.total == web.spare
        lacks = any(sum(debts[place] for place in places) < spare for places, spare in spares)
        self.assertIs(is_broken(debts), fits and not lacks)
        self.assertEqual(lacking(debts) is not None, lacks)
        if not fits or lacks:
            self.refused(InvalidOperation, tree_by, table, debts, *start)
            self.refused(InvalidOperation, broken_leaning, debts, start[0])
            self.assertIsNone(breaking(debts))
            return False
        self.assertEqual(broken_by(table, tree_by(table, debts, *start), *start), debts)
        leaning = broken_leaning(debts, start[0])
        self.assertEqual(debts_of(web, leaning), debts - Debts.at(web, start[0]))
        self.assertIs(is_led(web, leaning, start[0]), True)
        self.assertIs(is_breaking(debts, breaking(debts)), True)
        return True

    def test_drawn_debts(self):
        for table in SMALL_TABLES + SIX_TABLES + GREAT_TABLES:
            spares = spares_of(table.web)
            starts = starts_of(table)
            told = [self.check(table, starts[k % len(starts)], debts, spares)
                    for k, debts in enumerate(drawn_debts(table.web, 200, 507))]
            self.assertGreater(told.count(True), 50)
            self.assertGreater(told.count(False), 50)

    def test_debts_near_all_broken_ones(self):
        for table in SMALL_TABLES[:4]:
            web, spares = table.web, spares_of(table.web)
            start = starts_of(table)[-1]
            for tree in each_tree(web):
                debts = broken_by(table, tree, *start)
                self.assertIs(self.check(table, start, debts, spares), True)
                for place in web.places:
                    self.check(table, start, debts.moved(place, start[1]), spares)
                    self.assertIs(self.check(table, start, debts + Debts.at(web, place), spares), False)
                    self.assertIs(self.check(table, start, debts - Debts.at(web, place), spares), False)
                    self.assertIs(self.check(table, start, debts.moved(place, start[0], many=99), spares),
                                  place == start[0])

    def test_as_many_as_trees(self):
        # [9.3]: in each class just one.
        for table in SMALL_TABLES[:3]:
            web = table.web
            told = {}
            for debts in drawn_debts(web, 400, 508):
                if debts.total == web.spare:
                    one = broken_alike(debts)
                    self.assertIs(is_broken(one), True)
                    self.assertIs(are_alike(one, debts), True)
                    told[one.lines] = True
            self.assertLessEqual(len(told), count_trees(web))
            self.assertGreater(len(told), count_trees(web) // 2)


class Toured(ErrorCase):
    def check(self, table, home, tree, debts):
        """[12.5]: the broken debts of both trees differ by debts that are alike to these."""
        told = toured(table, home, tree, debts)
        neighbour = table.rounds[home][-1]
        gap = broken_by(table, told, home, neighbour) - broken_by(table, tree, home, neighbour)
        self.assertIs(are_alike(gap, debts), True)
        self.assertEqual(toured(table, home, told, -debts), tree)
        return told

    def test_all_trees_of_small_webs(self):
        for table in SMALL_TABLES:
            web = table.web
            for home in web.places:
                for debts in [Debts.at(web, "a") - Debts.at(web, "d")] + debts_with_total(web, 0, 1, 509, most=1000):
                    told = [self.check(table, home, tree, debts) for tree in each_tree(web)]
                    self.assertEqual(sorted(told), list(each_tree(web)))

    def test_all_trees_of_the_full_web_of_six_places(self):
        table = SIX_TABLES[1]
        debts = Debts.from_lines(SIX, "a has 2", "c owes 3", "f has 1")
        told = [self.check(table, "c", tree, debts) for tree in each_tree(SIX)]
        self.assertEqual(sorted(told), list(each_tree(SIX)))

    def test_drawn_trees_of_nine_places(self):
        for table in GREAT_TABLES:
            web = table.web
            for home in web.places[::4]:
                far = Debts.none(web).moved("a", "h", many=10 ** 60 - 1)
                for debts in debts_with_total(web, 0, 2, 510) + debts_with_total(web, 0, 1, 511, most=1000) + [far]:
                    trees = drawn_trees(web, 10, 512)
                    told = [self.check(table, home, tree, debts) for tree in trees]
                    self.assertEqual(len(set(told)), len(trees))


class Times(unittest.TestCase):
    def test_many_calls_end_soon(self):
        # They take about a thirtieth of this. Where each tie asks anew whether debts are broken, they
        # take more than twice as long as this.
        for table in (SIX_TABLES[0], EIGHT, Table.plain(FULLEST)):
            web = table.web
            trees = drawn_trees(web, 300, 513)
            home, neighbour = web.places[0], table.rounds[web.places[0]][0]
            step = Debts.at(web, web.places[1]) - Debts.at(web, home)
            begun = time.process_time()
            for tree in trees:
                debts = broken_by(table, tree, home, neighbour)
                self.assertIs(is_broken(debts), True)
                self.assertEqual(tree_by(table, debts, home, neighbour), tree)
                self.assertNotEqual(toured(table, home, tree, step), tree)
            self.assertLess(time.process_time() - begun, 3)


if __name__ == "__main__":
    unittest.main()
