"""[9.1] to [9.4]: broken debts, their breakings, and sets that lack."""

import unittest
from itertools import product

from owedround.base.webs import Web, full_web, ring_web
from owedround.errors import InvalidDebts, InvalidOperation, InvalidWeb, UnknownName
from owedround.lean.broken import breaking, broken_alike, broken_leaning, each_broken, is_breaking
from owedround.lean.broken import is_broken, is_lacking, lacking
from owedround.lean.leanings import debts_of, is_leaning, is_led
from owedround.owe.burning import each_reduced
from owedround.owe.debts import Debts, are_alike
from owedround.tree.joining import count_trees
from cases import ErrorCase
from oracles import leanings_of, numbers_of, reached_by_marks, sets_of, small_debts, trees_by_trial
from samples import ALL_STRANGE, DUMBBELL, FLAT, FOUR, FULLEST, KITE, LINE, NINE, NO_PLACES, ODD, PAIR
from samples import RING, SIX, TAIL, WEBS, debts_with_total, joined

SIXTY = 10 ** 60 - 1
PLAIN = Debts.at(KITE, "a", "d")
TREE = (("a", "b"), ("b", "c"), ("b", "d"))
ENDS = {("a", "c"): "a", ("c", "d"): "d"}
NO_DEBTS = ALL_STRANGE + (PLAIN.amounts, TREE, FLAT)
NO_WEBS = [value for value in ALL_STRANGE if value is not RING] + [FLAT, PLAIN]


def broken_by_trial(web):
    """The numbers of all broken debts, by all breakings of all trees [9.1], ascending."""
    found = set()
    for tree in trees_by_trial(web):
        off = [tie for tie in web.ties if tie not in tree]
        for ends in product(*off):
            found.add(tuple(ends.count(place) for place in web.places))
    return sorted(found)


def lacks(debts, places):
    """[9.2] word for word."""
    within = [tie for tie in debts.web.ties if set(tie) <= set(places)]
    return joined(places, within) and sum(debts[place] for place in places) < len(within) - len(places) + 1


class Broken(ErrorCase):
    def check(self, debts, expected):
        """is_broken, breaking and lacking against one another, and against a judge of this test."""
        self.assertIs(is_broken(debts), expected)
        told, places = breaking(debts), lacking(debts)
        if expected:
            self.assertTrue(self.judge(debts, told))
            self.assertIs(is_breaking(debts, told), True)
            self.assertEqual(list(told[1]), sorted(told[1]))
        else:
            self.assertIsNone(told)
        found = [one for one in sets_of(debts.web.places) if lacks(debts, one)]
        if found:
            self.assertIn(places, found)
            self.assertIs(is_lacking(debts, places), True)
        else:
            self.assertIsNone(places)
        self.assertEqual(expected, not found and debts.total == debts.web.spare)

    def judge(self, debts, value):
        """[9.1] word for word."""
        tree, ends = value
        web = debts.web
        if tree not in trees_by_trial(web) or sorted(ends) != [tie for tie in web.ties if tie not in tree]:
            return False
        given = list(ends.values())
        fits = all(end in tie for tie, end in ends.items())
        return fits and all(debts[place] == given.count(place) for place in web.places)

    def test_all_small_debts(self):
        for web, least, most in ((PAIR, -2, 3), (RING, -1, 3), (KITE, -1, 3), (LINE, -1, 1), (FOUR, 0, 3)):
            broken = broken_by_trial(web)
            for amounts in small_debts(web, least, most):
                self.check(Debts(web, amounts), tuple(amounts.values()) in broken)

    def test_broken_debts_and_their_neighbours(self):
        for web in (TAIL, DUMBBELL, ODD):
            broken = broken_by_trial(web)
            for numbers in broken:
                debts = Debts(web, dict(zip(web.places, numbers)))
                for giver, taker in ((0, 0), (0, 1), (1, 2), (2, 0), (4, 3)):
                    moved = debts.moved(web.places[giver], web.places[taker])
                    self.check(moved, tuple(moved.amounts.values()) in broken)

    def test_one_place_lacks_exactly_if_it_owes(self):
        for web in WEBS:
            for debts in debts_with_total(web, web.spare, 4, 50):
                for place in web.places:
                    self.assertIs(is_lacking(debts, (place,)), debts[place] < 0)

    def test_greater_webs(self):
        for web in (SIX, FULLEST, NINE):
            for debts in debts_with_total(web, web.spare, 6, 51) + debts_with_total(web, 4, 3, 52):
                places = lacking(debts)
                if places is None:
                    self.assertFalse([one for one in sets_of(web.places) if lacks(debts, one)])
                else:
                    self.assertTrue(lacks(debts, places))
                self.assertIs(is_broken(debts), places is None and debts.total == web.spare)

    def test_numbers_of_sixty_digits(self):
        for web in WEBS:
            debts = Debts.none(web).moved(web.places[0], web.places[-1], many=SIXTY)
            self.assertTrue(lacks(debts, lacking(debts)))
            self.assertIs(is_broken(debts), False)
            self.assertIsNone(breaking(debts))
            self.assertIsNone(lacking(Debts(web, {place: SIXTY for place in web.places})))

    def test_breakings_with_keys_in_any_order(self):
        self.assertIs(is_breaking(PLAIN, (TREE, ENDS)), True)
        self.assertIs(is_breaking(PLAIN, (TREE, dict(list(ENDS.items())[::-1]))), True)
        self.assertIs(is_breaking(Debts.at(KITE, "c", "c"), (TREE, {("a", "c"): "c", ("c", "d"): "c"})), True)
        self.assertIs(is_breaking(Debts.none(PAIR), (PAIR.ties, {})), True)

    def test_values_that_are_no_breakings(self):
        for value in ALL_STRANGE + (
            (TREE, {}), (TREE, {("a", "c"): "a"}), (TREE, {**ENDS, ("a", "b"): "a"}), (TREE, {**ENDS, "x": "y"}),
            (TREE, {**ENDS, ("c", "d"): "c"}), (TREE, {**ENDS, ("c", "d"): "a"}), (TREE, {**ENDS, ("c", "d"): None}),
            (TREE, {("a", "c"): "d", ("c", "d"): "a"}), (TREE, {**ENDS, ("c", "d"): ["d"]}),
            (TREE, {("a", "c"): "a", ("d", "c"): "d"}), (TREE, tuple(ENDS.items())),
            (TREE[::-1], ENDS), (TREE[:2], ENDS), (list(TREE), ENDS), (KITE.ties, ENDS), [TREE, ENDS], (TREE, ENDS, ()),
            (TREE,), (ENDS, TREE), (None, ENDS), (TREE, None), ((("a", "b"), ("a", "c"), ("b", "d")), ENDS), FLAT, TREE,
        ):
            self.assertIs(is_breaking(PLAIN, value), False, value)
        self.assertIs(is_breaking(Debts.at(KITE, "a", "c"), (TREE, ENDS)), False)
        self.assertIs(is_breaking(Debts.at(KITE, "a", "d", "d"), (TREE, ENDS)), False)

    def test_all_sets(self):
        for web in (KITE, FOUR, TAIL, DUMBBELL):
            for debts in debts_with_total(web, web.spare, 6, 53, most=2):
                for places in sets_of(web.places):
                    self.assertIs(is_lacking(debts, places), lacks(debts, places))

    def test_sets_that_do_not_hang_together_lack_nothing(self):
        debts = Debts.from_lines(KITE, "a owes 5", "d owes 5")
        for places in (("a",), ("d",), ("a", "b", "d")):
            self.assertIs(is_lacking(debts, places), True)
        self.assertIs(is_lacking(debts, ("a", "d")), False)
        self.assertTrue(lacks(debts, lacking(debts)))

    def test_values_that_are_no_sets_that_lack(self):
        debts = Debts.at(KITE, "a", "a")
        self.assertIs(is_lacking(debts, ("b", "c", "d")), True)
        for value in ALL_STRANGE + (
            (), ("b",), ("b", "c"), ("d", "c", "b"), ("b", "b", "c", "d"), ["b", "c", "d"], "bcd", ("b", "c", "d", "e"),
            ("b", "c", 4), ("a", "b", "c", "d"), {"b": 1}, FLAT,
        ):
            self.assertIs(is_lacking(debts, value), False, value)

    def test_wrong_debts(self):
        for wrong in NO_DEBTS:
            for call in (is_broken, breaking, lacking, broken_alike):
                self.refused(InvalidDebts, call, wrong)
            for call in (is_breaking, is_lacking):
                self.refused(InvalidDebts, call, wrong, None)


class Alike(ErrorCase):
    def test_each_class_has_just_one(self):
        for web in (PAIR, RING, KITE, FOUR, TAIL, LINE, DUMBBELL):
            broken = broken_by_trial(web)
            found = []
            for debts in each_reduced(web, "a", web.spare):
                told = broken_alike(debts)
                self.assertIs(are_alike(told, debts), True)
                self.assertIn(tuple(told.amounts.values()), broken)
                found.append(tuple(told.amounts.values()))
            self.assertEqual(sorted(found), broken)

    def test_of_broken_and_of_great_debts(self):
        for web in WEBS:
            for debts in debts_with_total(web, web.spare, 5, 54, most=1000):
                told = broken_alike(debts)
                self.assertIs(is_broken(told), True)
                self.assertIs(are_alike(told, debts), True)
                self.assertEqual(broken_alike(told), told)
            far = Debts.none(web).moved(web.places[0], web.places[-1], many=SIXTY - 20)
            far = far + web.spare * Debts.at(web, web.places[-1])
            self.assertIs(is_broken(broken_alike(far)), True)
            self.assertIs(are_alike(broken_alike(far), far), True)

    def test_other_totals(self):
        for wrong in (Debts.none(KITE), Debts.at(KITE, "a"), Debts.at(KITE, "a", "b", "c"), -PLAIN):
            self.refused(InvalidOperation, broken_alike, wrong)


class AllBroken(ErrorCase):
    def test_ascending_as_many_as_trees(self):
        for web in (PAIR, RING, KITE, FOUR, TAIL, LINE, DUMBBELL, ODD, NINE, full_web(tuple("abcde"))):
            told = list(each_broken(web))
            self.assertEqual([tuple(debts.amounts.values()) for debts in told], broken_by_trial(web))
            self.assertEqual(len(told), count_trees(web))
            for debts in told:
                self.assertIs(type(debts), Debts)
                self.assertEqual(debts.web, web)

    def test_webs_with_many_trees(self):
        web = SIX.without_tie("a", "b")
        told = [tuple(debts.amounts.values()) for debts in each_broken(web)]
        self.assertEqual((len(told), count_trees(web)), (864, 864))
        self.assertEqual(told, sorted(set(told)))
        for debts in list(each_broken(web))[::20]:
            self.assertIs(is_broken(debts), True)

    def test_just_a_thousand_trees(self):
        # Webs that hang on one place have the product of the numbers of their trees: 125 times 8.
        web = Web.of_ties(*full_web(tuple("abcde")).ties, *KITE.renamed(dict(zip("abcd", "efgh"))).ties)
        self.assertEqual(count_trees(web), 1000)
        told = [tuple(debts.amounts.values()) for debts in each_broken(web)]
        self.assertEqual((len(told), told), (1000, sorted(set(told))))

    def test_too_many_trees(self):
        more = Web.of_ties(*full_web(tuple("abcde")).ties, *ring_web(tuple("efg")).ties, *ring_web(tuple("ghi")).ties)
        self.assertEqual(count_trees(more), 1125)
        for web in (SIX, FULLEST, more):
            self.too_many(1000, each_broken, web)
            each_broken(web)  # the error comes with the first result only

    def test_wrong_webs(self):
        for wrong in NO_WEBS:
            self.refused(InvalidWeb, each_broken, wrong)
            each_broken(wrong)

    def test_one_by_one(self):
        one, other = each_broken(KITE), each_broken(KITE)
        told = [next(one).lines, next(one).lines, next(other).lines]
        self.assertEqual(told, [("c has 1", "d has 1"), ("c has 2",), ("c has 1", "d has 1")])


class Led(ErrorCase):
    def test_leanings_of_all_broken_debts(self):
        for web in (PAIR, RING, KITE, FOUR, TAIL, LINE, DUMBBELL):
            for debts in each_broken(web):
                for place in web.places:
                    leaning = broken_leaning(debts, place)
                    self.assertIs(is_leaning(web, leaning), True)
                    self.assertEqual(list(leaning), list(web.ties))
                    self.assertEqual(debts_of(web, leaning), debts - Debts.at(web, place))
                    self.assertIs(is_led(web, leaning, place), True)
                    self.assertEqual(len(reached_by_marks(web, leaning, place)), len(web.places))

    def test_broken_exactly_if_there_is_such_a_leaning(self):
        for web in (PAIR, RING, KITE, LINE):
            for place in web.places:
                led = [leaning for leaning in leanings_of(web)
                       if len(reached_by_marks(web, leaning, place)) == len(web.places)]
                at = web.places.index(place)
                told = {tuple(number + (k == at) for k, number in enumerate(numbers_of(web, one))) for one in led}
                self.assertEqual(sorted(told), broken_by_trial(web))

    def test_the_order_of_the_checks(self):
        for wrong in NO_DEBTS:
            self.in_order(broken_leaning, [PLAIN, "a"], (0, wrong, InvalidDebts), (1, "zz", UnknownName))
        unbroken = (Debts.none(KITE), Debts.at(KITE, "a", "a"), Debts.at(KITE, "a", "b", "c"))
        for wrong in unbroken:
            self.refused(InvalidOperation, broken_leaning, wrong, "a")
            self.unknown("zz", broken_leaning, wrong, "zz")
        for wrong in NO_PLACES:
            self.unknown(wrong, broken_leaning, unbroken[0], wrong)

    def test_nothing_is_shared(self):
        breaking(PLAIN)[1].clear()
        broken_leaning(PLAIN, "a").clear()
        ends = dict(list(ENDS.items())[::-1])
        is_breaking(PLAIN, (TREE, ends))
        self.assertEqual(list(ends), [("c", "d"), ("a", "c")])
        self.assertIs(is_broken(PLAIN), True)
        self.assertEqual(len(broken_leaning(PLAIN, "a")), 5)


if __name__ == "__main__":
    unittest.main()
