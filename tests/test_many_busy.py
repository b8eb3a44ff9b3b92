"""[14.2] to [14.4] for many tables and starts of one web after the other."""

import random
import time
import unittest

from owedround.base.tables import Table, each_table
from owedround.base.webs import Web, full_web, ring_web
from owedround.tree.joining import count_trees, each_tree
from owedround.turn.busy import busy_counts, inner_busy, levels, outer_busy, told_at
from cases import ErrorCase
from oracles import starts_of, trees_by_trial
from samples import COUNTED, CROSS, FLAT, FOUR, FULL_FIVE, NINE, ODD, OCTA, PRISM, STAR, TOUCH, TWIST, WHEEL, tables_of

# Just as many joining trees as there may be, and one more: the full web of five places and a kite with
# one place in common, and two webs of one piece.
BLOCKS = Web.of_ties(*FULL_FIVE, ("e", "f"), ("e", "g"), ("f", "g"), ("f", "h"), ("g", "h"))
THOUSAND = Web.of_ties(*[tuple(tie) for tie in "ab ac ad ae ag bd bf ce cf cg df ef eg fg".split()])
ONE_MORE = Web.of_ties(*[tuple(tie) for tie in "ab ac ad af ah bc ce ch de df dh eg fg gh".split()])


def tables_and_plain(web, many, seed):
    """The plain table of a web, and some others."""
    return [Table.plain(web)] + tables_of(web, many, seed)


def tallied(table, start):
    """The pairs of [14.2] and how many trees have them, ascending, by the busy ties of each joining tree."""
    told = {}
    for tree in each_tree(table.web):
        pair = (len(inner_busy(table, tree, *start)), len(outer_busy(table, tree, *start)))
        told[pair] = told.get(pair, 0) + 1
    return sorted(told.items())


class Counted(ErrorCase):
    def check(self, table, starts):
        for start in starts:
            counts = busy_counts(table, *start)
            self.assertEqual(list(counts.items()), tallied(table, start), (str(table.web), start))

    def test_the_webs(self):
        sizes = [(len(web.places), len(web.ties), count_trees(web)) for web in COUNTED]
        self.assertEqual(sizes, [(4, 5, 8), (5, 8, 45), (6, 9, 75), (5, 10, 125), (6, 10, 130)])

    def test_against_the_busy_ties_of_each_tree(self):
        for web in COUNTED:
            for k, table in enumerate(tables_and_plain(web, 4, 600)):
                self.check(table, starts_of(table)[k::6])

    def test_drawings_and_others(self):
        for table in (FLAT, TWIST, STAR, TOUCH, CROSS, WHEEL, PRISM, OCTA):
            self.check(table, starts_of(table)[1::7])

    def test_webs_with_few_rings(self):
        for web in (NINE, ODD, ring_web(tuple("acegibdfh")), ring_web(("zz", "a", "zzz"))):
            for table in tables_and_plain(web, 2, 601):
                self.check(table, starts_of(table)[::3])

    def test_webs_that_fall_into_pieces_on_the_way(self):
        # The last places stand between others, or on no ring.
        for ties in ("ai bi ci di ei fi gi hi", "ah bh ai ci bd ce df eg fg", "ab ac bc ci di ei de ef fg fh gh",
                     "ai bi ab ch dh cd eg fg ef gh hi"):
            web = Web.of_ties(*[tuple(tie) for tie in ties.split()])
            for table in tables_and_plain(web, 1, 602):
                self.check(table, starts_of(table)[::5])

    def test_grown_webs(self):
        rnd = random.Random(603)
        for _ in range(40):
            web = full_web(("a", "b"))
            for name in rnd.sample(("aa", "c", "ba", "zz", "k", "d"), rnd.randint(1, 6)):
                web = web.with_place(name, rnd.choice(web.places))
            for _ in range(rnd.randint(0, 5)):
                a, b = rnd.sample(web.places, 2)
                web = web if web.is_tied(a, b) else web.with_tie(a, b)
            for table in tables_of(web, 1, 604):
                self.check(table, [rnd.choice(starts_of(table))])

    def test_just_as_many_trees_as_there_may_be(self):
        for web in (BLOCKS, THOUSAND):
            self.assertEqual(len(trees_by_trial(web)), 1000)
            for table in tables_of(web, 1, 605):
                self.check(table, starts_of(table)[-1:])
        self.assertEqual(len(trees_by_trial(ONE_MORE)), 1001)
        for table in tables_and_plain(ONE_MORE, 3, 606):
            for start in starts_of(table):
                self.too_many(1000, busy_counts, table, *start)


class SameForAll(unittest.TestCase):
    def check(self, tables):
        told = {tuple(busy_counts(table, *start).items()) for table in tables for start in starts_of(table)}
        self.assertEqual(len(told), 1)

    def test_all_tables_of_small_webs(self):
        for web in (COUNTED[0], FOUR, TOUCH.web):
            self.check(each_table(web))

    def test_many_tables(self):
        for web in COUNTED[1:] + (OCTA.web, BLOCKS, THOUSAND):
            self.check(tables_and_plain(web, 25, 607))

    def test_other_names(self):
        # The places come in other orders then.
        rnd = random.Random(608)
        for web in COUNTED + (BLOCKS, THOUSAND):
            counts = list(busy_counts(Table.plain(web), *web.ties[0]).items())
            for _ in range(12):
                names = dict(zip(web.places, rnd.sample(("z", "ab", "b", "aa", "zz", "q", "k", "d"), len(web.places))))
                for table in tables_of(web.renamed(names), 1, 609):
                    self.assertEqual(list(busy_counts(table, *starts_of(table)[-1]).items()), counts)

    def test_the_dict_is_a_new_one_each_time(self):
        table = Table.plain(FULL_FIVE)
        lines, first = table.lines, busy_counts(table, "a", "b")
        kept = dict(first)
        first.clear()
        self.assertEqual((busy_counts(table, "a", "b"), table.lines), (kept, lines))


class Known(unittest.TestCase):
    def test_rings_and_lines(self):
        for many in range(3, 10):
            web = ring_web(tuple("abcdefghi"[:many]))
            expected = {(0, 1): 1, **{(inner, 0): 1 for inner in range(1, many)}}
            self.assertEqual(busy_counts(Table.plain(web), "a", "b"), expected)
        for many in range(2, 10):
            web = Web.of_ties(*[("abcdefgh"[k - 1], "bcdefghi"[k - 1]) for k in range(1, many)])
            self.assertEqual(busy_counts(Table.plain(web), "a", "b"), {(many - 1, 0): 1})

    def test_full_webs(self):
        self.assertEqual(busy_counts(STAR, "d", "b"), {
            (0, 1): 2, (0, 2): 3, (0, 3): 1, (1, 0): 2, (1, 1): 4, (2, 0): 3, (3, 0): 1})
        self.assertEqual(busy_counts(Table.plain(FULL_FIVE), "c", "a"), {
            (0, 1): 6, (0, 2): 15, (0, 3): 15, (0, 4): 10, (0, 5): 4, (0, 6): 1, (1, 0): 6, (1, 1): 20, (1, 2): 15,
            (1, 3): 5, (2, 0): 11, (2, 1): 10, (3, 0): 6, (4, 0): 1})

    def test_levels_and_sets_of_ties(self):
        for web in COUNTED + (OCTA.web, BLOCKS, THOUSAND):
            counts = busy_counts(Table.plain(web), *web.ties[-1])
            by_outer = [told_at({pair: many for pair, many in counts.items() if pair[1] == web.spare - k}, 1, 1)
                        for k in range(web.spare + 1)]
            for place in web.places[::3]:
                self.assertEqual(list(levels(web, place)), by_outer)
            self.assertEqual(told_at(counts, 1, 1), count_trees(web))
            self.assertEqual(told_at(counts, 2, 2), 2 ** len(web.ties))
            self.assertEqual(told_at(counts, 0, 0), 0)


class Times(unittest.TestCase):
    def test_many_calls_end_soon(self):
        # They take about a fortieth of this. Where the busy ties of each tree are told, they take four
        # times as long as this.
        begun = time.process_time()
        for web in COUNTED:
            for table in tables_of(web, 10, 610):
                for start in starts_of(table)[:5]:
                    self.assertEqual(told_at(busy_counts(table, *start), 1, 2) > 0, True)
        self.assertLess(time.process_time() - begun, 1)


if __name__ == "__main__":
    unittest.main()
