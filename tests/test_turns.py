"""[8.4]: the turns of leanings."""

import unittest

from owedround.base.rings import each_ring
from owedround.errors import InvalidLeaning, InvalidTurn, InvalidWeb
from owedround.lean.leanings import debts_of, is_turn, turned
from cases import ErrorCase
from oracles import is_walked_along, leanings_of, sets_of, with_other_ends
from samples import ALL_STRANGE, FLAT, FOUR, FULLEST, KITE, LINE, PAIR, RING, TAIL
from test_leanings import AROUND, LATE, NO_LEANINGS, NO_WEBS, some_leanings, turned_keys


class Turns(ErrorCase):
    def judge_cut(self, web, leaning, places):
        across = [tie for tie in web.ties if (tie[0] in places) != (tie[1] in places)]
        return len(places) < len(web.places) and all(leaning[tie] in places for tie in across)

    def check(self, web, leaning, turn, ties):
        """The turn is one, and behind it just these ties lean the other way."""
        self.assertIs(is_turn(web, leaning, turn), True)
        behind = turned(web, turned_keys(leaning), turn)
        self.assertEqual(behind, with_other_ends(leaning, ties))
        self.assertEqual(list(behind), list(web.ties))
        return behind

    def test_all_rings_in_both_directions_from_each_place_on(self):
        for web in (RING, KITE, FOUR, TAIL):
            for leaning in leanings_of(web):
                for ring in each_ring(web):
                    along = is_walked_along(leaning, ring)
                    ties = [tuple(sorted(pair)) for pair in zip(ring, ring[1:] + ring[:1])]
                    for k in range(len(ring) if along else 1):
                        turn = ("ring", ring[k:] + ring[:k])
                        if along:
                            behind = self.check(web, leaning, turn, ties)
                            self.assertEqual(debts_of(web, behind), debts_of(web, leaning))
                            self.assertIs(is_turn(web, behind, ("ring", turn[1][::-1])), True)
                        else:
                            self.assertIs(is_turn(web, leaning, turn), False)
                            self.refused(InvalidTurn, turned, web, leaning, turn)

    def test_all_cuts(self):
        for web in (PAIR, RING, KITE, FOUR, TAIL, LINE):
            for leaning in leanings_of(web):
                for places in sets_of(web.places):
                    turn = ("cut", places)
                    if self.judge_cut(web, leaning, places):
                        behind = self.check(web, leaning, turn, web.ties_across(places))
                        self.assertEqual(debts_of(web, behind), debts_of(web, leaning).lent_together(places))
                        rest = tuple(place for place in web.places if place not in places)
                        self.assertIs(is_turn(web, behind, ("cut", rest)), True)
                    else:
                        self.assertIs(is_turn(web, leaning, turn), False)
                        self.refused(InvalidTurn, turned, web, leaning, turn)

    def test_a_cut_whose_places_do_not_hang_together(self):
        leaning = {("a", "b"): "a", ("b", "c"): "b", ("c", "d"): "d"}
        behind = self.check(LINE, leaning, ("cut", ("a", "d")), [("a", "b"), ("c", "d")])
        self.assertEqual(behind, {("a", "b"): "b", ("b", "c"): "b", ("c", "d"): "c"})

    def test_the_greatest_web(self):
        for leaning in some_leanings(FULLEST, 10, 30):
            for places in sets_of(FULLEST.places)[::7]:
                expected = self.judge_cut(FULLEST, leaning, places)
                self.assertIs(is_turn(FULLEST, leaning, ("cut", places)), expected)

    def test_values_near_turns(self):
        self.assertIs(is_turn(KITE, LATE, ("cut", ("d",))), True)
        self.assertIs(is_turn(KITE, AROUND, ("ring", ("a", "b", "c"))), True)
        for value in ALL_STRANGE + (
            ["cut", ("d",)], ("cut", ["d"]), ("cut", "d"), ("cut", ()), ("cut", ("a", "b", "c", "d")), ("cut",),
            ("cut", ("d",), None), ("cuts", ("d",)), ("", ("d",)), (None, ("d",)), ("ring", ("d",)), (("d",), "cut"),
            ("cut", ("d", "c")), ("cut", ("d", "d")), ("cut", ("d", "e")), ("cut", ("c", 1)), ("cut", None),
            ("Cut", ("d",)), {"cut": ("d",)}, "cut", (["cut"], ("d",)), (("cut",), ("d",)), ("cut", LATE), LATE,
        ):
            self.assertIs(is_turn(KITE, LATE, value), False, value)
            self.refused(InvalidTurn, turned, KITE, LATE, value)
        for value in (
            ("ring", ["a", "b", "c"]), ("ring", "abc"), ("ring", ("a", "c", "b")), ("ring", ("a", "b", "c", "a")),
            ("ring", ("a", "b")), ("ring", ()), ("ring", ("b", "d", "a")), ("ring", ("b", "d", "c", "e")),
            ["ring", ("a", "b", "c")],
            ("cut", ("a", "b", "c")), ("ring", None), ("ring", ("a", "b", 3)), ("ring", ("a", "b", "c"), ()), ("ring",),
        ):
            self.assertIs(is_turn(KITE, AROUND, value), False, value)
            self.refused(InvalidTurn, turned, KITE, AROUND, value)

    def test_the_order_of_the_checks(self):
        for wrong in NO_WEBS:
            self.in_order(turned, [KITE, LATE, ("cut", ("d",))], (0, wrong, InvalidWeb), (1, None, InvalidLeaning),
                          (2, None, InvalidTurn))
        for wrong in NO_LEANINGS + ALL_STRANGE:
            self.in_order(is_turn, [KITE, LATE, None], (0, None, InvalidWeb), (1, wrong, InvalidLeaning))
            self.in_order(turned, [KITE, LATE, ("cut", ("d",))], (1, wrong, InvalidLeaning), (2, FLAT, InvalidTurn))

    def test_nothing_is_changed(self):
        leaning = turned_keys(LATE)
        turned(KITE, leaning, ("cut", ("d",))).clear()
        self.assertEqual((leaning, list(leaning)), (LATE, list(LATE)[::-1]))


if __name__ == "__main__":
    unittest.main()
