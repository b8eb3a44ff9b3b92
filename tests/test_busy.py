"""[14.1] to [14.4]: busy ties, and what their numbers count."""

import unittest
from itertools import combinations

from owedround.base.tables import Table, each_table
from owedround.errors import InvalidNumber, InvalidOperation, InvalidTable, InvalidTie, InvalidTree, InvalidWeb
from owedround.errors import UnknownName
from owedround.owe.debts import Debts
from owedround.tree.joining import count_trees
from owedround.turn.busy import busy_counts, inner_busy, levels, outer_busy, told_at
from cases import ErrorCase
from oracles import cut_by_trial, has_ring, is_reduced_by_sets, leanings_of, met_by_hand, numbers_of
from oracles import reached_by_marks, ring_by_trial, starts_of, trees_by_trial
from samples import ALL_STRANGE, COUNTED, CROSS, DUMBBELL, FLAT, FOUR, FULLEST, KITE, LINE, NINE, NO_PLACES, ODD, PAIR
from samples import RING, SIX, STAR, TABLES, TAIL, TOUCH, TWIST, WHEEL, joined, rings_by_trial, tables_of
from test_hands import some_trees

SIXTY = 10 ** 60 - 1
TREE = (("a", "b"), ("b", "c"), ("b", "d"))
COUNTS = {(0, 1): 1, (0, 2): 1, (1, 0): 1, (1, 1): 2, (2, 0): 2, (3, 0): 1}
SMALL = (PAIR, RING, KITE, FOUR, TAIL, LINE, DUMBBELL, ODD, TOUCH.web)
NO_TABLES = ALL_STRANGE + (FLAT.rounds, KITE, TREE)
NO_WEBS = [value for value in ALL_STRANGE if value is not RING] + [FLAT, Debts.none(KITE)]


def counts_by_hand(table, start):
    """[14.2] by the sets of ties that can be exchanged."""
    told = {}
    for tree in trees_by_trial(table.web):
        inner, outer = busy_by_hand(table, tree, start)
        told[len(inner), len(outer)] = told.get((len(inner), len(outer)), 0) + 1
    return dict(sorted(told.items()))


def busy_by_hand(table, tree, start):
    """The pair of the inner and the outer busy ties."""
    met = list(met_by_hand(table, tree, *start))
    inner = [tie for tie in tree if min(cut_by_trial(table.web, tree, tie), key=met.index) == tie]
    off = [tie for tie in table.web.ties if tie not in tree]
    return tuple(inner), tuple(tie for tie in off if min(ring_by_trial(table.web, tree, tie), key=met.index) == tie)


class Busy(ErrorCase):
    def check(self, table, tree, start):
        told = (inner_busy(table, tree, *start), outer_busy(table, tree, *start))
        self.assertEqual(told, busy_by_hand(table, tree, start))

    def test_all_trees_and_starts(self):
        for table in (FLAT, TWIST, STAR, TOUCH, CROSS) + tuple(Table.plain(web) for web in SMALL):
            for tree in trees_by_trial(table.web):
                for start in starts_of(table):
                    self.check(table, tree, start)

    def test_greater_webs(self):
        for table in TABLES + tuple(tables_of(FULLEST, 2, 140)):
            for tree in some_trees(table.web, 3):
                for start in starts_of(table)[::9]:
                    self.check(table, tree, start)

    def test_ties_on_no_ring_are_always_busy(self):
        for web in (PAIR, LINE, TAIL, DUMBBELL, NINE, ODD):
            table = Table.plain(web)
            for tree in trees_by_trial(web):
                for start in starts_of(table)[::3]:
                    told = inner_busy(table, tree, *start)
                    self.assertTrue(all(tie in told for tie in web.bridges))

    def test_the_order_of_the_checks(self):
        for call in (outer_busy, inner_busy):
            good = [FLAT, TREE, "a", "b"]
            self.in_order(call, good, (0, KITE, InvalidTable), (1, TREE[:2], InvalidTree), (2, "zz", UnknownName),
                          (3, "yy", UnknownName))
            for wrong in NO_TABLES:
                self.in_order(call, good, (0, wrong, InvalidTable), (1, None, InvalidTree), (3, "d", InvalidTie))
            for wrong in NO_PLACES:
                self.in_order(call, good, (2, wrong, UnknownName), (3, wrong, UnknownName))
            for wrong in ALL_STRANGE:
                self.in_order(call, good, (1, wrong, InvalidTree), (3, "d", InvalidTie))


class Counts(ErrorCase):
    def test_the_same_for_all_tables_and_starts(self):
        for web in (RING, KITE, FOUR, TAIL, TOUCH.web):
            expected = None
            for table in each_table(web):
                for start in starts_of(table):
                    told = busy_counts(table, *start)
                    expected = expected or counts_by_hand(table, start)
                    self.assertEqual((told, list(told)), (expected, list(expected)))

    def test_greater_webs(self):
        for table in (WHEEL, Table.plain(DUMBBELL), Table.plain(ODD), Table.plain(NINE)):
            expected = counts_by_hand(table, starts_of(table)[0])
            for start in starts_of(table)[::5]:
                self.assertEqual(busy_counts(table, *start), expected)
            self.assertEqual(sum(expected.values()), count_trees(table.web))

    def test_errors(self):
        good = [FLAT, "a", "b"]
        for wrong in NO_TABLES:
            self.in_order(busy_counts, good, (0, wrong, InvalidTable), (1, "zz", UnknownName), (2, "yy", UnknownName))
        for wrong in NO_PLACES:
            self.in_order(busy_counts, good, (1, wrong, UnknownName), (2, wrong, UnknownName))
        self.in_order(busy_counts, good, (0, None, InvalidTable), (2, "d", InvalidTie))
        for web in (SIX, FULLEST):
            table = Table.plain(web)
            self.too_many(1000, busy_counts, table, "a", web.neighbours("a")[0])
            self.unknown("zz", busy_counts, table, "zz", "b")
            self.unknown("zz", busy_counts, table, "a", "zz")
            self.refused(InvalidTie, busy_counts, table, "a", "a")

    def test_nothing_is_shared(self):
        busy_counts(FLAT, "a", "b").clear()
        self.assertEqual(busy_counts(FLAT, "a", "b"), COUNTS)


class Told(ErrorCase):
    def told_by_counting(self, web):
        """The numbers of [14.3], counted one by one."""
        sets = [told for many in range(len(web.ties) + 1) for told in combinations(web.ties, many)]
        rings = [{tuple(sorted(pair)) for pair in zip(ring, ring[1:] + ring[:1])} for ring in rings_by_trial(web)]
        leanings = list(leanings_of(web))
        led = {place: [one for one in leanings if len(reached_by_marks(web, one, place)) == len(web.places)]
               for place in web.places}
        ringless = [one for one in leanings if not has_ring(web, one)]
        strong = [one for one in leanings if all(one in led[place] for place in web.places)]
        without = [told for told in sets if not any(ring <= set(told) for ring in rings)]
        joining = [told for told in sets if joined(web.places, told)]
        self.assertEqual(len(without), len({numbers_of(web, one) for one in leanings}))
        only = []
        for place in web.places:
            self.assertEqual(len(led[place]), len(joining))
            only.append(len([one for one in ringless if all(
                (other in one.values()) != (other == place) for other in web.places)]))
        self.assertEqual(len(set(only)), 1)
        return {
            (1, 1): len(trees_by_trial(web)), (2, 1): len(without), (1, 2): len(joining), (2, 0): len(ringless),
            (1, 0): only[0], (0, 2): len(strong), (0, 1): len({numbers_of(web, one) for one in strong}),
            (2, 2): len(leanings), (0, 0): 0,
        }

    def test_the_points_of_the_table(self):
        for web in SMALL + COUNTED[1:]:
            counts = busy_counts(Table.plain(web), web.places[0], web.neighbours(web.places[0])[0])
            for (x, y), many in self.told_by_counting(web).items():
                self.assertEqual(told_at(counts, x, y), many, (str(web), x, y))

    def test_other_numbers(self):
        for x in (-3, -1, 0, 1, 2, 7, SIXTY, -SIXTY):
            for y in (-2, -1, 0, 1, 5, SIXTY, -SIXTY):
                self.assertEqual(told_at({}, x, y), 0)
                self.assertEqual(told_at({(0, 0): 4}, x, y), 4)
                self.assertEqual(told_at({(18, 18): SIXTY, (0, 1): 2}, x, y), SIXTY * x ** 18 * y ** 18 + 2 * y)
                self.assertEqual(told_at(dict(list(COUNTS.items())[::-1]), x, y),
                                 sum(many * x ** i * y ** j for (i, j), many in COUNTS.items()))

    def test_values_near_such_dicts(self):
        for wrong in [value for value in ALL_STRANGE if value != {}] + [
            {(0, 19): 1}, {(19, 0): 1}, {(-1, 0): 1}, {(0, 0): 0}, {(0, 0): -1}, {(0, 0): True}, {(True, 0): 1},
            {(0, False): 1}, {(0,): 1}, {(0, 0, 0): 1}, {0: 1}, {"ab": 1}, {("a", "b"): 1}, {(0, 0): "1"},
            {(0, 0): None}, {(0, 0): [1]}, {(0, 0): 10 ** 60}, {(0, 0): 1, (1, 0): 0}, {(0, 0): 1, None: 1},
            {(0, (0,)): 1}, list(COUNTS.items()), tuple(COUNTS), FLAT,
        ]:
            self.in_order(told_at, [COUNTS, 1, 1], (0, wrong, InvalidOperation), (1, None, InvalidNumber),
                          (2, True, InvalidNumber))
        counts = dict(COUNTS)
        told_at(counts, 2, 3)
        self.assertEqual(counts, COUNTS)

    def test_wrong_numbers(self):
        for wrong in ALL_STRANGE + ("1", (1,), FLAT):
            self.in_order(told_at, [{}, 0, 0], (1, wrong, InvalidNumber), (2, wrong, InvalidNumber))


class Levels(ErrorCase):
    def test_against_reduced_debts_and_busy_ties(self):
        for web in (PAIR, RING, KITE, FOUR, TAIL, LINE, DUMBBELL) + COUNTED[1:]:
            counts = busy_counts(Table.plain(web), "a", web.neighbours("a")[0])
            for place in web.places:
                told = levels(web, place)
                self.assertIs(type(told), tuple)
                self.assertEqual(len(told), web.spare + 1)
                for k, many in enumerate(told):
                    outer = web.spare - k
                    self.assertEqual(many, sum(row for (_, j), row in counts.items() if j == outer))

    def test_counted_here(self):
        for web in (PAIR, RING, KITE, LINE):
            for place in web.places:
                others = [other for other in web.places if other != place]
                sums = [0] * (web.spare + 1)
                for numbers in rows_of(len(others), web.spare):
                    debts = Debts(web, {**dict(zip(others, numbers)), place: -sum(numbers)})
                    sums[sum(numbers)] += is_reduced_by_sets(debts, place)
                self.assertEqual(levels(web, place), tuple(sums))

    def test_the_same_for_each_place(self):
        for web in (WHEEL.web, ODD, NINE, SIX.without_tie("a", "b")):
            told = {levels(web, place) for place in web.places}
            self.assertEqual(len(told), 1)
            self.assertEqual(sum(list(told)[0]), count_trees(web))

    def test_errors(self):
        for wrong in NO_WEBS:
            self.in_order(levels, [KITE, "a"], (0, wrong, InvalidWeb), (1, "zz", UnknownName))
        for wrong in NO_PLACES:
            self.unknown(wrong, levels, KITE, wrong)
            self.unknown(wrong, levels, SIX, wrong)
        self.too_many(1000, levels, SIX, "a")


def rows_of(many, most):
    """All tuples of so many numbers of at least 0 with a sum of at most that."""
    rows = [()]
    for _ in range(many):
        rows = [row + (number,) for row in rows for number in range(most - sum(row) + 1)]
    return rows


if __name__ == "__main__":
    unittest.main()
