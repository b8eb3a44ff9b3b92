"""[2.1]: the methods of webs, their errors and the order of their checks."""

import unittest
from itertools import combinations

from owedround.base.webs import Web
from owedround.errors import InvalidOperation, InvalidPlace, InvalidTie, UnknownName
from cases import ErrorCase
from samples import ALL_STRANGE, DUMBBELL, FOUR, FULLEST, KITE, LINE, NINE, PAIR, RING, SIX, TAIL
from samples import WEBS, joined

AB, AC, BC, BD, CD = ("a", "b"), ("a", "c"), ("b", "c"), ("b", "d"), ("c", "d")


class Looking(ErrorCase):
    def test_neighbours(self):
        told = [KITE.neighbours(place) for place in KITE.places]
        self.assertEqual(told, [("b", "c"), ("a", "c", "d"), ("a", "b", "d"), ("b", "c")])
        self.assertEqual(PAIR.neighbours("b"), ("a",))

    def test_ties_at(self):
        self.assertEqual(KITE.ties_at("a"), (AB, AC))
        self.assertEqual(KITE.ties_at("c"), (AC, BC, CD))
        self.assertEqual(TAIL.ties_at("e"), (("d", "e"),))

    def test_both_fit_together_and_ascend(self):
        for web in WEBS:
            for place in web.places:
                near = web.neighbours(place)
                self.assertEqual(near, tuple(sorted(near)))
                self.assertEqual(web.ties_at(place), tuple(tie for tie in web.ties if place in tie))
                self.assertEqual(web.ties_at(place), tuple(tuple(sorted((place, one))) for one in near))

    def test_is_tied(self):
        for web in WEBS:
            for a in web.places:
                for b in web.places:
                    self.assertIs(web.is_tied(a, b), tuple(sorted((a, b))) in web.ties)
        self.assertIs(KITE.is_tied("a", "a"), False)

    def test_unknown_places(self):
        for wrong in ALL_STRANGE + ("e", "aa", 0, AB):
            self.unknown(wrong, KITE.neighbours, wrong)
            self.unknown(wrong, KITE.ties_at, wrong)
            self.unknown(wrong, KITE.is_tied, wrong, "a")
            self.unknown(wrong, KITE.is_tied, "a", wrong)
            self.unknown(wrong, KITE.is_tied, wrong, "zz")


class Sets(ErrorCase):
    def test_every_set_of_every_web(self):
        for web in (RING, KITE, FOUR, PAIR, TAIL, LINE, DUMBBELL):
            for many in range(len(web) + 1):
                for places in combinations(web.places, many):
                    inside = tuple(tie for tie in web.ties if set(tie) <= set(places))
                    across = tuple(tie for tie in web.ties if len(set(tie) & set(places)) == 1)
                    self.assertEqual(web.ties_within(places), inside)
                    self.assertEqual(web.ties_across(places), across)
                    if places:
                        self.assertIs(web.hangs(places), joined(places, inside))

    def test_one_place_and_all_places_hang_together(self):
        for web in WEBS:
            self.assertIs(web.hangs(web.places), True)
            for place in web.places:
                self.assertIs(web.hangs((place,)), True)

    def test_places_that_hang_together_by_others_only_do_not(self):
        self.assertIs(KITE.hangs(("a", "d")), False)
        self.assertIs(LINE.hangs(("a", "b", "d")), False)
        self.assertIs(NINE.hangs(("a", "b", "h", "i")), False)

    def test_the_empty_set(self):
        self.assertEqual(KITE.ties_within(()), ())
        self.assertEqual(KITE.ties_across(()), ())
        self.refused(InvalidOperation, KITE.hangs, ())

    def test_what_is_no_set_of_places(self):
        wrong = [value for value in ALL_STRANGE if value not in ((), ("a",))]
        wrong += [("b", "a"), ("a", "a"), ("a", "b", "b"), ["a"], ["a", "b"], "a", "ab", {"a": 1}]
        for value in wrong + [("a", "e"), ("e",), ("a", "B"), ("a", 1), (1, "a"), ("a", None), KITE]:
            for call in (KITE.hangs, KITE.ties_within, KITE.ties_across):
                self.refused(InvalidOperation, call, value)


class Ties(ErrorCase):
    def test_a_tie_more(self):
        self.assertEqual(KITE.with_tie("a", "d"), FOUR)
        self.assertEqual(KITE.with_tie("d", "a"), FOUR)
        self.assertEqual(len(KITE.ties), 5)

    def test_up_to_eighteen_ties(self):
        less = FULLEST.without_tie("a", "b")
        self.assertEqual(less.with_tie("a", "b"), FULLEST)
        self.assertEqual(len(less.with_tie("a", "e").ties), 18)
        self.too_many(18, FULLEST.with_tie, "a", "e")

    def test_wrong_ties_more(self):
        for a, b in (("a", "a"), ("a", "b"), ("b", "a"), ("d", "c")):
            self.refused(InvalidTie, KITE.with_tie, a, b)

    def test_the_order_of_the_checks_of_a_tie_more(self):
        for wrong in ALL_STRANGE + ("zz",):
            for call in (FULLEST.with_tie, FULLEST.without_tie):
                self.unknown(wrong, call, wrong, None)
                self.unknown(wrong, call, wrong, wrong)
                self.unknown(wrong, call, "a", wrong)
        self.refused(InvalidTie, FULLEST.with_tie, "a", "b")
        self.refused(InvalidTie, FULLEST.with_tie, "a", "a")

    def test_a_tie_less(self):
        self.assertEqual(FOUR.without_tie("a", "d"), KITE)
        self.assertEqual(FOUR.without_tie("d", "a"), KITE)
        self.assertEqual(len(FOUR.ties), 6)

    def test_every_tie_of_every_web_less(self):
        for web in WEBS:
            for a, b in web.ties:
                if (a, b) in web.bridges:
                    self.refused(InvalidOperation, web.without_tie, a, b)
                    self.refused(InvalidOperation, web.without_tie, b, a)
                else:
                    rest = tuple(tie for tie in web.ties if tie != (a, b))
                    self.assertEqual(web.without_tie(b, a), Web(web.places, rest))

    def test_wrong_ties_less(self):
        for a, b in (("a", "a"), ("a", "d"), ("d", "a")):
            self.refused(InvalidTie, KITE.without_tie, a, b)
        self.refused(InvalidTie, LINE.without_tie, "a", "c")
        self.refused(InvalidTie, LINE.without_tie, "a", "a")
        self.refused(InvalidOperation, PAIR.without_tie, "a", "b")


class Places(ErrorCase):
    def test_a_place_more(self):
        self.assertEqual(TAIL.places, ("a", "b", "c", "d", "e"))
        self.assertEqual(TAIL.ties, (AB, AC, BC, BD, CD, ("d", "e")))
        self.assertEqual(PAIR.with_place("aa", "b").ties, (("a", "b"), ("aa", "b")))
        self.assertEqual(PAIR.with_place("aa", "b").places, ("a", "aa", "b"))

    def test_up_to_nine_places(self):
        web = PAIR
        for name in "cdefghi":
            web = web.with_place(name, "a")
        self.assertEqual(len(web), 9)
        self.too_many(9, web.with_place, "j", "a")

    def test_eighteen_ties(self):
        web = SIX.with_place("g", "a").with_place("h", "a").with_tie("b", "h")
        self.assertEqual((len(web), len(web.ties)), (8, 18))
        self.too_many(18, web.with_place, "i", "a")
        self.assertEqual(len(web.without_tie("b", "h").with_place("i", "a").ties), 18)

    def test_too_many_places_come_before_too_many_ties(self):
        self.too_many(9, FULLEST.with_place, "j", "a")

    def test_wrong_names(self):
        for wrong in ALL_STRANGE + ("d", "a", "x1", "abcdefghi", 7):
            self.refused(InvalidPlace, KITE.with_place, wrong, "a")
            self.refused(InvalidPlace, KITE.with_place, wrong, "zz")
            self.refused(InvalidPlace, FULLEST.with_place, wrong if wrong != "d" else "i", None)

    def test_wrong_neighbours(self):
        for wrong in ALL_STRANGE + ("x", "zz"):
            self.unknown(wrong, KITE.with_place, "x", wrong)
            self.unknown(wrong, FULLEST.with_place, "x", wrong)


class Renaming(ErrorCase):
    def test_other_names(self):
        web = KITE.renamed({"a": "z", "b": "b", "c": "a", "d": "dog"})
        self.assertEqual(web.places, ("a", "b", "dog", "z"))
        self.assertEqual(web.ties, (("a", "b"), ("a", "dog"), ("a", "z"), ("b", "dog"), ("b", "z")))

    def test_the_same_names(self):
        for web in WEBS:
            self.assertEqual(web.renamed({place: place for place in web.places}), web)

    def test_there_and_back(self):
        for web in WEBS:
            names = dict(zip(web.places, web.places[::-1]))
            self.assertEqual(web.renamed(names).renamed(names), web)

    def test_wrong_names(self):
        for wrong in ALL_STRANGE + (
            {"a": "x", "b": "y", "c": "z"},
            {"a": "x", "b": "y", "c": "z", "d": "x"},
            {"a": "x", "b": "y", "c": "z", "d": "D"},
            {"a": "x", "b": "y", "c": "z", "d": ["w"]},
            {"a": "x", "b": "y", "c": "z", "e": "w"},
            {"a": "x", "b": "y", "c": "z", "d": "w", "e": "v"},
            (("a", "x"), ("b", "y"), ("c", "z"), ("d", "w")),
            "abcd",
        ):
            self.refused(InvalidOperation, KITE.renamed, wrong)


class State(unittest.TestCase):
    def told(self, web):
        near = [web.neighbours(place) for place in web.places]
        return (web.places, web.ties, web.lines, web.spare, web.bridges, near, str(web), list(web))

    def test_no_call_changes_a_web(self):
        before = self.told(KITE)
        KITE.with_tie("a", "d")
        KITE.without_tie("a", "b")
        KITE.with_place("e", "a")
        KITE.renamed({"a": "d", "b": "c", "c": "b", "d": "a"})
        for call in (KITE.neighbours, KITE.hangs, KITE.renamed):
            with self.assertRaises((UnknownName, InvalidOperation)):
                call(["nothing"])
        self.assertEqual(self.told(KITE), before)

    def test_passed_values_stay_and_are_not_kept(self):
        names = {"b": "y", "a": "x"}
        web = PAIR.renamed(names)
        self.assertEqual(list(names.items()), [("b", "y"), ("a", "x")])
        names["a"] = "nothing"
        names.clear()
        self.assertEqual(web, Web.from_lines("tie x y"))

    def test_what_is_returned_is_a_tuple_or_a_web(self):
        for told in (KITE.neighbours("a"), KITE.ties_at("a"), KITE.ties_within(AB), KITE.ties_across(AB)):
            self.assertIs(type(told), tuple)
        made = (KITE.with_tie("a", "d"), KITE.without_tie("a", "b"), KITE.with_place("e", "a"))
        for web in made:
            self.assertIs(type(web), Web)

    def test_iterators_are_independent(self):
        one, other = iter(KITE), iter(KITE)
        self.assertEqual([next(one), next(one), next(other), next(one)], [AB, AC, AB, BC])
        self.assertEqual(list(other), [AC, BC, BD, CD])


if __name__ == "__main__":
    unittest.main()
