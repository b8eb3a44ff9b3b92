"""[8.5] to [8.8]: leanings with alike debts, and the ways between leanings."""

import unittest
from itertools import permutations

from owedround.base.webs import Web
from owedround.errors import InvalidDebts, InvalidLeaning, InvalidOperation, InvalidWeb, UnknownName
from owedround.lean.leanings import debts_of, is_leaning, is_led, is_ringless, is_turn, sources, turned
from owedround.lean.ways import choice_of, is_way, leaning_alike, led_leaning, way_between
from owedround.owe.burning import can_be_free, each_reduced
from owedround.owe.debts import Debts, are_alike, plan_between
from cases import ErrorCase
from oracles import has_ring, is_walked_along, leanings_of, reached_by_marks, with_other_ends
from samples import ALL_STRANGE, DUMBBELL, FLAT, FOUR, FULLEST, KITE, LINE, NO_PLACES, PAIR, RING, SIX, TAIL, WEBS
from samples import debts_with_total
from test_leanings import AROUND, LATE, NO_LEANINGS, NO_WEBS, some_leanings, turned_keys

SIXTY = 10 ** 60 - 1
ONE = {("a", "b"): "b", ("a", "c"): "c", ("b", "c"): "c"}


def judge(web, one, other, value):
    """[8.6] word for word."""
    if type(value) is not tuple or len(value) != 2 or not all(type(part) is tuple for part in value):
        return False
    cuts, rings = value
    leaning, used = dict(one), []
    for at, places in enumerate(cuts):
        if type(places) is not tuple or list(places) != sorted(set(places)) or not set(places) < set(web.places):
            return False
        if not places or at and not set(cuts[at - 1]) < set(places):
            return False
        across = [tie for tie in web.ties if (tie[0] in places) != (tie[1] in places)]
        if not all(leaning[tie] in places for tie in across):
            return False
        leaning = with_other_ends(leaning, across)
    for ring in rings:
        if type(ring) is not tuple or not is_walked_along(leaning, ring):
            return False
        ties = [tuple(sorted(pair)) for pair in zip(ring, ring[1:] + ring[:1])]
        if set(ties) & set(used):
            return False
        used += ties
        leaning = with_other_ends(leaning, ties)
    return leaning == other


def judge_turns(web, one, other, cuts):
    """Whether the cuts are turns and lead there, nested or not."""
    leaning = one
    for places in cuts:
        if not is_turn(web, leaning, ("cut", places)):
            return False
        leaning = turned(web, leaning, ("cut", places))
    return leaning == other


class Alike(ErrorCase):
    def check(self, web, debts, place):
        leaning, led = leaning_alike(debts), led_leaning(debts, place)
        for told in (leaning, led):
            self.assertIs(is_leaning(web, told), True)
            self.assertEqual(list(told), list(web.ties))
            self.assertIs(are_alike(debts_of(web, told), debts), True)
        self.assertIs(is_led(web, led, place), True)
        self.assertEqual(len(reached_by_marks(web, led, place)), len(web.places))

    def test_all_classes(self):
        for web in (PAIR, RING, KITE, FOUR, TAIL, LINE, DUMBBELL):
            for debts in each_reduced(web, "b", web.spare - 1):
                for place in web.places:
                    self.check(web, debts, place)

    def test_all_webs(self):
        for web in WEBS:
            for at, debts in enumerate(debts_with_total(web, web.spare - 1, 12, 40, most=9)):
                self.check(web, debts, web.places[at % len(web)])
            for debts in debts_with_total(web, web.spare - 1, 2, 41, most=1000):
                self.check(web, debts, web.places[-1])

    def test_numbers_of_sixty_digits(self):
        for web in WEBS:
            debts = Debts.none(web).moved(web.places[0], web.places[-1], many=SIXTY - 20)
            self.check(web, debts + (web.spare - 1) * Debts.at(web, web.places[-1]), web.places[0])

    def test_the_order_of_the_checks(self):
        good = Debts.at(KITE, "a")
        for wrong in ALL_STRANGE + (LATE, good.amounts, FLAT):
            self.refused(InvalidDebts, leaning_alike, wrong)
            self.in_order(led_leaning, [good, "a"], (0, wrong, InvalidDebts), (1, "zz", UnknownName))
        for wrong in (Debts.none(KITE), Debts.at(KITE, "a", "b"), -good, Debts.none(PAIR), Debts.at(RING, "a")):
            self.refused(InvalidOperation, leaning_alike, wrong)
            self.in_order(led_leaning, [good, "a"], (0, wrong, InvalidOperation), (1, None, UnknownName))
        for wrong in NO_PLACES:
            self.unknown(wrong, led_leaning, good, wrong)


class Ways(ErrorCase):
    def check(self, web, one, other):
        """A way is there exactly if the debts are alike, and [8.7] is true of it."""
        value = way_between(web, turned_keys(one), turned_keys(other))
        plan = plan_between(debts_of(web, one), debts_of(web, other))
        if plan is None:
            self.assertIsNone(value)
            return
        self.assertTrue(judge(web, one, other, value))
        self.assertIs(is_way(web, one, other, value), True)
        cuts, rings = value
        self.assertLess(len(cuts), len(web.places))
        self.assertEqual({place: sum(place in places for places in cuts) for place in web.places}, plan)
        turned = [tie for places in cuts for tie in web.ties_across(places)]
        turned += [tuple(sorted(pair)) for ring in rings for pair in zip(ring, ring[1:] + ring[:1])]
        self.assertEqual(sorted(turned), [tie for tie in web.ties if one[tie] != other[tie]])

    def test_all_pairs_of_leanings(self):
        for web in (PAIR, RING, KITE, LINE):
            leanings = list(leanings_of(web))
            for one in leanings:
                for other in leanings:
                    self.check(web, one, other)

    def test_leanings_of_greater_webs(self):
        for web in (FOUR, TAIL, DUMBBELL, SIX, FULLEST):
            told = some_leanings(web, 12, 42)
            for one in told:
                for other in told[:4] + [led_leaning(debts_of(web, one), place) for place in web.places]:
                    self.check(web, one, other)

    def test_rings_that_share_a_place(self):
        # Two rings round one place, and one ring that is walked twice through it.
        web = RING.with_place("d", "c").with_place("e", "d").with_tie("c", "e")
        one = {("a", "b"): "b", ("a", "c"): "a", ("b", "c"): "c", ("c", "d"): "d", ("c", "e"): "c", ("d", "e"): "e"}
        other = with_other_ends(one, web.ties)
        self.check(web, one, other)
        rings = (("a", "b", "c"), ("c", "d", "e"))
        for told in permutations(rings):
            self.assertIs(is_way(web, one, other, ((), told)), True)
            self.assertIs(is_way(web, one, other, ((), told[:1])), False)
        self.assertIs(is_way(web, one, other, ((), rings + rings)), False)
        self.assertIs(is_way(web, one, one, ((), ())), True)
        back = (("a", "c", "b"),)
        self.assertIs(is_way(web, one, one, ((), rings[:1] + back)), False)

    def test_cuts_left_out_exchanged_and_told_twice(self):
        web = LINE
        one = {("a", "b"): "b", ("b", "c"): "c", ("c", "d"): "d"}
        other = with_other_ends(one, web.ties)
        cuts = (("d",), ("c", "d"), ("b", "c", "d"))
        self.assertEqual(way_between(web, one, other), (cuts, ()))
        for told in permutations(cuts):
            self.assertIs(is_way(web, one, other, (told, ())), told == cuts)
        for k in range(3):
            self.assertIs(is_way(web, one, other, (cuts[:k] + cuts[k + 1:], ())), False)
            self.assertIs(is_way(web, one, other, (cuts[:k] + cuts[k:k + 1] + cuts[k:], ())), False)
        self.assertIs(is_way(web, one, other, (cuts + (("a", "b", "c", "d"),), ())), False)
        self.assertIs(is_way(web, one, other, (((),) + cuts, ())), False)

    def test_cuts_and_rings_together(self):
        web = TAIL
        one = {**AROUND, ("d", "e"): "e"}
        other = with_other_ends(one, [("d", "e"), ("a", "b"), ("a", "c"), ("b", "c")])
        cuts, rings = way_between(web, one, other)
        self.assertEqual(cuts, (("e",),))
        for value, expected in (
            ((cuts, rings), True), ((cuts, ()), False), (((), rings), False), ((rings, cuts), False),
            ((cuts, (("b", "c", "a"),)), True), ((cuts, (("c", "b", "a"),)), False), ((cuts + cuts, rings), False),
            ((cuts, rings + rings), False), ([cuts, rings], False), ((list(cuts), rings), False),
            ((cuts, list(rings)), False),
            ((cuts, rings, ()), False), ((cuts,), False), ((cuts[0], rings), False), ((cuts, rings[0]), False),
        ):
            self.assertIs(is_way(web, one, other, value), expected, value)
            self.assertIs(judge(web, one, other, value), expected, value)

    def test_cuts_that_are_turns_but_not_nested(self):
        # Both orders of these cuts are turns and lead there, but neither set has all places of the other one.
        one = {("a", "b"): "a", ("b", "c"): "b", ("c", "d"): "d"}
        other = with_other_ends(one, [("a", "b"), ("c", "d")])
        self.assertEqual(way_between(LINE, one, other), ((("a", "d"),), ()))
        self.assertIs(is_way(LINE, one, other, ((("a",), ("d",)), ())), False)
        self.assertIs(is_way(LINE, one, other, ((("d",), ("a",)), ())), False)
        web = Web.from_lines("tie a b", "tie b c", "tie c d", "tie d e", "tie e f")
        for cuts in (
            (("a",), ("c", "d", "e", "f")), (("a",), ("a", "b"), ("d", "e", "f")), (("a", "f"), ("a", "b", "c")),
            (("a", "b"), ("f",), ("d", "e", "f")), (("a",), ("f",)),
        ):
            ties = [tie for places in cuts for tie in web.ties_across(places)]
            into = {tie: end for places in cuts for tie in web.ties_across(places) for end in tie if end in places}
            one = {tie: into.get(tie, tie[0]) for tie in web.ties}
            other = with_other_ends(one, ties)
            self.assertTrue(judge_turns(web, one, other, cuts))
            self.assertIs(is_way(web, one, other, (cuts, ())), False)
            self.assertIs(judge(web, one, other, (cuts, ())), False)
            self.check(web, one, other)

    def test_every_other_value_is_no_way(self):
        for value in ALL_STRANGE + (
            (None, None), ((), None), (None, ()), ((), ()), ((("c",),), None), ((("c",),), ((),)),
            ((("c",),), ("abc",)),
            ((["c"],), ()), (("c",), ()), ("c", ()), (((("c",),),), ()), {"cuts": (), "rings": ()}, ONE, FLAT,
        ):
            other = {("a", "b"): "b", ("a", "c"): "a", ("b", "c"): "b"}
            self.assertIs(is_way(RING, ONE, other, value), False, value)
        self.assertIs(is_way(RING, ONE, other, ((("c",),), ())), True)

    def test_the_order_of_the_checks(self):
        for call in (way_between, is_way):
            good = [KITE, LATE, LATE] + [None] * (call is is_way)
            for wrong in NO_WEBS:
                self.in_order(call, good, (0, wrong, InvalidWeb), (1, None, InvalidLeaning), (2, None, InvalidLeaning))
            for wrong in NO_LEANINGS + ALL_STRANGE + (ONE,):
                self.in_order(call, good, (1, wrong, InvalidLeaning), (2, wrong, InvalidLeaning))

    def test_nothing_is_shared_or_changed(self):
        one, other = turned_keys(LATE), with_other_ends(LATE, [("b", "d"), ("c", "d")])
        self.assertEqual(way_between(KITE, one, other), ((("d",),), ()))
        self.assertEqual((one, list(one)), (LATE, list(LATE)[::-1]))


class Choices(ErrorCase):
    def check(self, web, leaning):
        told, found = choice_of(web, turned_keys(leaning))
        self.assertIs(is_leaning(web, found), True)
        self.assertEqual(list(found), list(web.ties))
        self.assertIs(are_alike(debts_of(web, found), debts_of(web, leaning)), True)
        free = can_be_free(debts_of(web, leaning))
        self.assertEqual(told, "leaned" if free else "ringless")
        if free:
            self.assertEqual(sources(web, found), ())
            self.assertTrue(all(place in found.values() for place in web.places))
        else:
            self.assertIs(is_ringless(web, found), True)
            self.assertFalse(has_ring(web, found))

    def test_all_leanings(self):
        for web in (PAIR, RING, KITE, FOUR, TAIL, LINE):
            for leaning in leanings_of(web):
                self.check(web, leaning)

    def test_leanings_of_greater_webs(self):
        for web in WEBS:
            for leaning in some_leanings(web, 10, 43):
                self.check(web, leaning)

    def test_the_result_is_a_dict_of_its_own(self):
        for leaning in (dict(LATE), dict(AROUND)):
            before = dict(leaning)
            choice_of(KITE, leaning)[1].clear()
            self.assertEqual(leaning, before)
        self.assertIs(type(choice_of(KITE, LATE)), tuple)

    def test_the_order_of_the_checks(self):
        for wrong in NO_WEBS:
            self.in_order(choice_of, [KITE, LATE], (0, wrong, InvalidWeb), (1, {}, InvalidLeaning))
        for wrong in NO_LEANINGS + ALL_STRANGE:
            self.refused(InvalidLeaning, choice_of, KITE, wrong)


if __name__ == "__main__":
    unittest.main()
