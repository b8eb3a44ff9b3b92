"""[8.1] to [8.3]: leanings, their debts, orders and rings, and crowded sets."""

import random
import unittest
from itertools import permutations

from owedround.base.rings import is_ring
from owedround.errors import InvalidDebts, InvalidLeaning, InvalidWeb, UnknownName
from owedround.lean.leanings import crowded, debts_of, is_crowded, is_leaning, is_leaning_order, is_led
from owedround.lean.leanings import is_ringless, leaning_order, leaning_with, opposite, ring_of, sources
from owedround.owe.debts import Debts
from cases import ErrorCase
from oracles import has_ring, is_walked_along, leanings_of, numbers_of, reached_by_marks, sets_of, small_debts
from samples import ALL_STRANGE, DUMBBELL, FLAT, FOUR, KITE, LINE, NO_PLACES, PAIR, RING, SIX, TAIL, WEBS

LATE = {("a", "b"): "b", ("a", "c"): "c", ("b", "c"): "c", ("b", "d"): "d", ("c", "d"): "d"}
AROUND = {("a", "b"): "b", ("a", "c"): "a", ("b", "c"): "c", ("b", "d"): "d", ("c", "d"): "c"}
NO_WEBS = [value for value in ALL_STRANGE if value is not RING] + [FLAT, LATE]
NO_LEANINGS = (
    {},
    {tie: end for tie, end in LATE.items() if tie != ("c", "d")},
    dict(LATE, **{"x": "y"}),
    {**LATE, ("a", "d"): "d"},
    {**{tie: end for tie, end in LATE.items() if tie != ("c", "d")}, ("a", "d"): "d"},
    {**{tie: end for tie, end in LATE.items() if tie != ("c", "d")}, ("d", "c"): "d"},
    {**LATE, ("a", "b"): "c"},
    {**LATE, ("a", "b"): None},
    {**LATE, ("a", "b"): ("b",)},
    {**LATE, ("a", "b"): ["b"]},
    {**LATE, ("a", "b"): 1},
    {**LATE, ("a", "b"): ("a", "b")},
    {**LATE, ("a", "b"): ""},
    tuple(LATE.items()),
    list(LATE.items()),
    tuple(LATE.values()),
    {"ab": "b", "ac": "c", "bc": "c", "bd": "d", "cd": "d"},
)
ALL_WEBS = (PAIR, RING, KITE, FOUR, TAIL, LINE)


def turned_keys(leaning):
    """The same leaning with its keys in the opposite order."""
    return dict(list(leaning.items())[::-1])


def some_leanings(web, many, seed):
    """Some leanings of a web, always the same ones."""
    rnd = random.Random(seed)
    return [{tie: rnd.choice(tie) for tie in web.ties} for _ in range(many)]


class Leanings(ErrorCase):
    def test_is_leaning(self):
        for web in ALL_WEBS:
            for leaning in leanings_of(web):
                self.assertIs(is_leaning(web, leaning), True)
                self.assertIs(is_leaning(web, turned_keys(leaning)), True)

    def test_values_that_are_no_leanings(self):
        for value in NO_LEANINGS + ALL_STRANGE + (FLAT,):
            self.assertIs(is_leaning(KITE, value), False, value)
        self.assertIs(is_leaning(RING, LATE), False)
        self.assertIs(is_leaning(FOUR, LATE), False)

    def test_debts_sources_and_opposites_of_all_leanings(self):
        for web in ALL_WEBS:
            for leaning in leanings_of(web):
                debts = debts_of(web, turned_keys(leaning))
                self.assertIs(type(debts), Debts)
                self.assertEqual((debts.web, debts.total), (web, web.spare - 1))
                self.assertEqual(tuple(debts.amounts.values()), numbers_of(web, leaning))
                free = tuple(place for place in web.places if debts[place] == -1)
                self.assertEqual(sources(web, turned_keys(leaning)), free)
                back = opposite(web, turned_keys(leaning))
                self.assertEqual(list(back), list(web.ties))
                for tie in web.ties:
                    self.assertEqual(sorted((back[tie], leaning[tie])), list(tie))
                self.assertEqual(opposite(web, back), leaning)

    def test_is_led(self):
        for web in ALL_WEBS:
            for leaning in leanings_of(web):
                for place in web.places:
                    expected = len(reached_by_marks(web, leaning, place)) == len(web.places)
                    self.assertIs(is_led(web, turned_keys(leaning), place), expected)

    def test_the_greatest_webs(self):
        for web in WEBS:
            for leaning in some_leanings(web, 5, 20):
                self.assertEqual(tuple(debts_of(web, leaning).amounts.values()), numbers_of(web, leaning))
                for place in web.places:
                    reached = reached_by_marks(web, leaning, place)
                    self.assertIs(is_led(web, leaning, place), len(reached) == len(web.places))

    def test_nothing_is_shared_or_changed(self):
        leaning = turned_keys(LATE)
        debts_of(KITE, leaning).amounts.clear()
        opposite(KITE, leaning).clear()
        ring_of(KITE, leaning)
        leaning_order(KITE, leaning)
        self.assertEqual(list(leaning), list(LATE)[::-1])
        self.assertEqual(leaning, LATE)


class RingsAndOrders(ErrorCase):
    def judge_order(self, web, leaning, value):
        """[8.2] word for word."""
        if sorted(value) != list(web.places):
            return False
        return all(value.index(end) > value.index(a if end == b else b) for (a, b), end in leaning.items())

    def test_ring_or_order(self):
        for web in ALL_WEBS:
            for leaning in leanings_of(web):
                self.check(web, turned_keys(leaning))
        for web in WEBS:
            for leaning in some_leanings(web, 20, 21):
                self.check(web, leaning)

    def check(self, web, leaning):
        ring, order = ring_of(web, leaning), leaning_order(web, leaning)
        self.assertIs(is_ringless(web, leaning), not has_ring(web, leaning))
        if has_ring(web, leaning):
            self.assertIs(type(ring), tuple)
            self.assertIs(is_ring(web, ring), True)
            self.assertTrue(is_walked_along(leaning, ring))
            self.assertIsNone(order)
        else:
            self.assertIsNone(ring)
            self.assertIs(type(order), tuple)
            self.assertTrue(self.judge_order(web, leaning, order))
            self.assertIs(is_leaning_order(web, leaning, order), True)

    def test_all_orders_of_all_leanings(self):
        for web in (PAIR, RING, KITE, LINE):
            for leaning in leanings_of(web):
                found = 0
                for value in permutations(web.places):
                    expected = self.judge_order(web, leaning, value)
                    self.assertIs(is_leaning_order(web, turned_keys(leaning), value), expected)
                    found += expected
                self.assertEqual(found > 0, is_ringless(web, leaning))

    def test_values_that_are_no_orders(self):
        self.assertIs(is_leaning_order(KITE, LATE, ("a", "b", "c", "d")), True)
        for value in ALL_STRANGE + (
            ["a", "b", "c", "d"], "abcd", ("a", "b", "c"), ("a", "b", "c", "d", "d"), ("a", "b", "c", "c"),
            ("a", "b", "c", None), ("a", "b", "c", ["d"]), ("a", "b", "c", "e"), ("a", "c", "b", "d"), LATE, KITE.ties,
        ):
            self.assertIs(is_leaning_order(KITE, LATE, value), False, value)

    def test_the_webs_without_rings_have_ringless_leanings_only(self):
        for web in (PAIR, LINE):
            for leaning in leanings_of(web):
                self.assertIs(is_ringless(web, leaning), True)


class Crowds(ErrorCase):
    def judge(self, debts, places):
        """[8.3] word for word."""
        within = [tie for tie in debts.web.ties if set(tie) <= set(places)]
        return len(within) > sum(debts[place] for place in places) + len(places)

    def test_leanings_against_crowded_sets(self):
        for web, most in ((PAIR, 3), (RING, 2), (KITE, 2), (LINE, 1)):
            told = {numbers_of(web, leaning) for leaning in leanings_of(web)}
            for amounts in small_debts(web, -2, most):
                debts = Debts(web, amounts)
                fitting = [places for places in sets_of(web.places) if self.judge(debts, places)]
                leaning, places = leaning_with(debts), crowded(debts)
                if fitting:
                    self.assertIn(places, fitting)
                    self.assertIs(is_crowded(debts, places), True)
                else:
                    self.assertIsNone(places)
                expected = tuple(amounts.values()) in told
                self.assertEqual(expected, not fitting and debts.total == web.spare - 1)
                if expected:
                    self.assertIs(is_leaning(web, leaning), True)
                    self.assertEqual(list(leaning), list(web.ties))
                    self.assertEqual(debts_of(web, leaning), debts)
                else:
                    self.assertIsNone(leaning)

    def test_the_debts_of_leanings(self):
        for web in WEBS:
            for leaning in some_leanings(web, 10, 22):
                debts = debts_of(web, leaning)
                self.assertEqual(debts_of(web, leaning_with(debts)), debts)
                self.assertIsNone(crowded(debts))
                more = debts + Debts.at(web, "a")
                self.assertIsNone(leaning_with(more))
                self.assertIsNone(crowded(more))
                less = debts - Debts.at(web, "a")
                self.assertIsNone(leaning_with(less))
                self.assertTrue(self.judge(less, crowded(less)))

    def test_all_sets(self):
        for web in (KITE, TAIL, DUMBBELL):
            rnd = random.Random(23)
            for _ in range(10):
                debts = Debts(web, {place: rnd.randint(-1, 1) for place in web.places})
                found = [places for places in sets_of(web.places) if self.judge(debts, places)]
                for places in sets_of(web.places):
                    self.assertIs(is_crowded(debts, places), places in found)
                self.assertTrue(crowded(debts) in found if found else crowded(debts) is None)

    def test_numbers_of_sixty_digits(self):
        big = 10 ** 60 - 1
        for web in WEBS:
            debts = Debts.none(web).moved(web.places[0], web.places[1], many=big)
            self.assertTrue(self.judge(debts, crowded(debts)))
            self.assertIs(is_crowded(debts, crowded(debts)), True)
            self.assertIsNone(leaning_with(debts + (web.spare - 1) * Debts.at(web, "a")))
            self.assertIsNone(crowded(Debts(web, {place: big for place in web.places})))

    def test_values_that_are_no_crowded_sets(self):
        debts = Debts.from_lines(KITE, "a has 2", "b owes 1")
        self.assertIs(is_crowded(debts, ("b", "c", "d")), True)
        for value in ALL_STRANGE + (
            ("d", "c", "b"), ("b", "b", "c", "d"), ["b", "c", "d"], "bcd", ("b", "c"), ("b",), ("b", "c", "d", "e"),
            ("b", "c", 1), {"b": 1}, debts, LATE,
        ):
            self.assertIs(is_crowded(debts, value), False, value)
        self.assertIs(is_crowded(Debts.from_lines(KITE, "a owes 9"), ()), False)
        self.assertIs(is_crowded(Debts.none(SIX), SIX.places), True)


class Errors(ErrorCase):
    def test_webs_leanings_and_places(self):
        for wrong in NO_WEBS:
            self.refused(InvalidWeb, is_leaning, wrong, LATE)
            for call in (debts_of, opposite, sources, is_ringless, ring_of, leaning_order):
                self.in_order(call, [KITE, LATE], (0, wrong, InvalidWeb), (1, {}, InvalidLeaning))
        for wrong in NO_LEANINGS + ALL_STRANGE:
            for call in (debts_of, opposite, sources, is_ringless, ring_of, leaning_order):
                self.refused(InvalidLeaning, call, KITE, wrong)
            self.in_order(is_led, [KITE, LATE, "a"], (0, None, InvalidWeb), (1, wrong, InvalidLeaning),
                          (2, "zz", UnknownName))
            self.in_order(is_leaning_order, [KITE, LATE, None], (0, None, InvalidWeb), (1, wrong, InvalidLeaning))
        for wrong in NO_PLACES:
            self.unknown(wrong, is_led, KITE, LATE, wrong)

    def test_debts(self):
        for wrong in ALL_STRANGE + (LATE, FLAT, {"a": 1, "b": 0, "c": 0, "d": 0}):
            self.refused(InvalidDebts, leaning_with, wrong)
            self.refused(InvalidDebts, crowded, wrong)
            self.refused(InvalidDebts, is_crowded, wrong, ("a",))
            self.refused(InvalidDebts, is_crowded, wrong, None)


if __name__ == "__main__":
    unittest.main()
