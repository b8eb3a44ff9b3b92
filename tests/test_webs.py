"""[2.1] and [0.8]: which webs there are, and what they tell of themselves."""

import unittest

from owedround.base import webs
from owedround.base.rings import each_ring, ring_ties
from owedround.base.webs import Web, full_web, ring_web
from owedround.errors import InvalidTie, InvalidWeb, ParseError
from samples import ALL_STRANGE, DUMBBELL, FOUR, FULLEST, KITE, LINE, NINE, PAIR, RING, SIX, TAIL
from samples import WEBS, joined

AB, AC, BC, BD, CD = ("a", "b"), ("a", "c"), ("b", "c"), ("b", "d"), ("c", "d")
LETTERS = "abcdefghi"


class Making(unittest.TestCase):
    def refused(self, places, ties):
        with self.assertRaises(InvalidWeb):
            Web(places, ties)

    def test_the_constants(self):
        self.assertEqual((webs.MAX_PLACES, webs.MAX_TIES), (9, 18))

    def test_webs_of_each_size(self):
        self.assertEqual(Web(("a", "b"), (AB,)), PAIR)
        self.assertEqual(Web(("a", "b", "c", "d"), (AB, AC, BC, BD, CD)), KITE)
        self.assertEqual((len(NINE.places), len(NINE.ties)), (9, 8))
        self.assertEqual((len(FULLEST.places), len(FULLEST.ties)), (9, 18))
        self.assertEqual(Web(("abcdefgh", "z"), (("abcdefgh", "z"),)).places, ("abcdefgh", "z"))

    def test_too_few_and_too_many_places(self):
        self.refused((), ())
        self.refused(("a",), ())
        self.refused(("a",), (("a", "a"),))
        places = tuple(LETTERS + "j")
        self.refused(places, tuple(zip(places, places[1:])))

    def test_too_many_ties(self):
        ties = tuple(sorted(FULLEST.ties + (("a", "e"),)))
        self.assertEqual(len(ties), 19)
        self.refused(FULLEST.places, ties)

    def test_webs_that_fall_apart(self):
        self.refused(("a", "b"), ())
        self.refused(("a", "b", "c"), (AB,))
        self.refused(("a", "b", "c", "d"), (AB, CD))
        self.refused(("a", "b", "c", "d"), (AB, AC, BC))
        self.refused(("a", "b", "c", "d", "e"), (AB, AC, BC, ("d", "e")))

    def test_places_out_of_order_or_twice(self):
        self.refused(("b", "a"), (AB,))
        self.refused(("a", "a", "b"), (AB,))
        self.refused(("a", "b", "b"), (AB,))

    def test_ties_out_of_order_or_twice(self):
        self.refused(("a", "b", "c"), (AC, AB))
        self.refused(("a", "b", "c"), (AB, AB, AC))
        self.refused(("a", "b", "c"), (AB, AC, AC))

    def test_ties_that_are_none(self):
        for wrong in (("b", "a"), ("a", "a"), ("a", "z"), ("0", "a"), ["a", "b"], ("a",), "ab", None, 1):
            self.refused(("a", "b"), (wrong,))
            self.refused(("a", "b"), (AB, wrong))
        self.refused(("a", "b"), (("a", "b", "c"),))
        self.refused(("a", "b", "c"), (AB, ("a", ["c"])))

    def test_ties_of_other_places(self):
        self.refused(("a", "b"), (AB, AC))
        self.refused(("a", "b"), (AB, CD))
        self.refused(("a", "b"), (AB, BC, CD))
        self.refused(("b", "c"), (AB, BC))

    def test_lists_in_the_place_of_tuples(self):
        self.refused(["a", "b"], (AB,))
        self.refused(("a", "b"), [AB])
        self.refused(("a", "b"), (["a", "b"],))
        self.refused("ab", (AB,))
        self.refused({"a": 1, "b": 2}, (AB,))

    def test_places_that_are_no_names(self):
        self.refused(("A", "b"), (("A", "b"),))
        self.refused(("a", "abcdefghij"), (("a", "abcdefghij"),))
        self.refused(("a", 1), (("a", 1),))
        self.refused((1, 2), ((1, 2),))

    def test_every_wrong_value(self):
        for wrong in ALL_STRANGE:
            self.refused(wrong, (AB,))
            self.refused(wrong, wrong)
            if wrong != (AB,):  # the one of them that fits
                self.refused(("a", "b"), wrong)


class Lines(unittest.TestCase):
    def refused(self, number, *lines):
        with self.assertRaises(ParseError) as caught:
            Web.from_lines(*lines)
        self.assertEqual(caught.exception.number, number)

    def test_lines_in_any_order_and_either_place_first(self):
        self.assertEqual(Web.from_lines("tie d c", "tie b a", "tie c a", "tie d b", "tie c b"), KITE)
        self.assertEqual(Web.from_lines("tie z abcdefgh").ties, (("abcdefgh", "z"),))

    def test_lines_lead_back(self):
        for web in WEBS:
            self.assertEqual(Web.from_lines(*web.lines), web)
            self.assertEqual(Web.from_lines(*web.lines[::-1]), web)

    def test_values_that_are_no_lines(self):
        for wrong in (
            "", "tie", "tie a", "tie a ", "tie a b ", " tie a b", "tie  a b", "tie a  b", "tie a b c",
            "Tie a b", "ties a b", "a b", "tie a B", "tie a1 b", "tie a b\n", "tie a\tb", "tie\na b",
            "tie abcdefghi b", "tie a a", "tie a,b", "tie a: b", "join a b",
        ):
            self.refused(0, wrong)
            self.refused(1, "tie a c", wrong)

    def test_values_of_other_kinds_are_no_lines(self):
        for wrong in ALL_STRANGE + (AB, ["tie a b"], ("tie a b",), 0):
            self.refused(2, "tie a b", "tie b c", wrong, "tie a")

    def test_a_tie_told_twice(self):
        self.refused(1, "tie a b", "tie a b")
        self.refused(2, "tie a b", "tie a c", "tie b a", "nonsense")
        self.refused(3, "tie b a", "tie b c", "tie c d", "tie a b")

    def test_the_first_wrong_line_counts(self):
        self.refused(1, "tie a b", "nonsense", "tie a b")
        self.refused(1, "tie a b", "tie a b", "nonsense")

    def test_wrong_lines_come_before_wrong_webs(self):
        self.refused(2, "tie a b", "tie c d", "tie a b")
        lines = ["tie " + a + " " + b for a in "abcdefg" for b in "abcdefg" if a < b]
        self.refused(21, *lines, "tie a a")

    def test_lines_of_no_web(self):
        lines = ["tie " + a + " " + b for a in "abcdefg" for b in "abcdefg" if a < b]
        places = "abcdefghij"
        for told in ([], ["tie a b", "tie c d"], lines, ["tie a " + b for b in places[1:]]):
            with self.assertRaises(InvalidWeb):
                Web.from_lines(*told)


class OfTies(unittest.TestCase):
    def test_ties_in_any_order(self):
        self.assertEqual(Web.of_ties(CD, BC, AB, BD, AC), KITE)
        for web in WEBS:
            self.assertEqual(Web.of_ties(*web.ties[::-1]), web)

    def test_values_that_are_no_ties(self):
        for value in ALL_STRANGE + (("b", "a"), ["a", "b"], "tie a b", ("a", "B"), ("a", "b", "c"), 5):
            for told in ((value,), (AB, value), (value, BC)):
                with self.assertRaises(InvalidTie):
                    Web.of_ties(*told)

    def test_a_tie_that_is_there_twice(self):
        for told in ((AB, AB), (AB, BC, AB)):
            with self.assertRaises(InvalidTie):
                Web.of_ties(*told)

    def test_wrong_ties_come_before_wrong_webs(self):
        for told in ((AB, CD, CD), (AB, CD, ("b", "a")), (("b", "a"), AB, CD)):
            with self.assertRaises(InvalidTie):
                Web.of_ties(*told)

    def test_ties_of_no_web(self):
        many = [(a, b) for a in "abcdefg" for b in "abcdefg" if a < b]
        for told in ((), (AB, CD), many, [("a", b) for b in "bcdefghij"]):
            with self.assertRaises(InvalidWeb):
                Web.of_ties(*told)


class Properties(unittest.TestCase):
    def test_places_and_ties(self):
        self.assertEqual(KITE.places, ("a", "b", "c", "d"))
        self.assertEqual(KITE.ties, (AB, AC, BC, BD, CD))

    def test_lines_are_those_of_the_ascending_ties(self):
        self.assertEqual(KITE.lines, ("tie a b", "tie a c", "tie b c", "tie b d", "tie c d"))
        odd = Web.from_lines("tie ab a", "tie a z", "tie ab b", "tie b abc")
        self.assertEqual(odd.lines, ("tie a ab", "tie a z", "tie ab b", "tie abc b"))
        for web in WEBS + (odd,):
            self.assertEqual(web.lines, tuple(sorted(web.lines)))

    def test_spare(self):
        told = [web.spare for web in (PAIR, LINE, NINE, RING, KITE, FOUR, SIX, FULLEST)]
        self.assertEqual(told, [0, 0, 0, 1, 2, 3, 10, 10])

    def test_bridges(self):
        self.assertEqual(PAIR.bridges, (AB,))
        self.assertEqual(LINE.bridges, LINE.ties)
        self.assertEqual(NINE.bridges, NINE.ties)
        self.assertEqual(TAIL.bridges, (("d", "e"),))
        self.assertEqual(DUMBBELL.bridges, (("c", "d"),))
        for web in (RING, KITE, FOUR, SIX, FULLEST):
            self.assertEqual(web.bridges, ())

    def test_bridges_are_the_ties_on_no_ring(self):
        for web in WEBS:
            on_rings = set()
            for ring in each_ring(web):
                on_rings |= set(ring_ties(ring))
            self.assertEqual(web.bridges, tuple(tie for tie in web.ties if tie not in on_rings))
            for tie in web.ties:
                rest = [other for other in web.ties if other != tie]
                self.assertEqual(tie in web.bridges, not joined(web.places, rest))

    def test_properties_cannot_be_set(self):
        for name in ("places", "ties", "lines", "spare", "bridges"):
            with self.assertRaises(AttributeError):
                setattr(KITE, name, ())

    def test_properties_are_tuples_of_their_kind(self):
        for web in WEBS:
            for told in (web.places, web.ties, web.lines, web.bridges):
                self.assertIs(type(told), tuple)
            self.assertIs(type(web.spare), int)


class Operators(unittest.TestCase):
    def test_contains_places_and_ties(self):
        for value in ("a", "d", AB, CD):
            self.assertIs(value in KITE, True)

    def test_contains_nothing_else(self):
        for value in ALL_STRANGE + ("e", ("a", "d"), ("b", "a"), ["a", "b"], "tie a b", KITE, 4):
            self.assertIs(value in KITE, False, value)

    def test_len_is_the_number_of_places(self):
        self.assertEqual([len(web) for web in (PAIR, RING, KITE, TAIL, NINE)], [2, 3, 4, 5, 9])

    def test_iterating_yields_the_ties(self):
        for web in WEBS:
            self.assertEqual(tuple(web), web.ties)
            self.assertEqual(list(iter(web)), sorted(web.ties))

    def test_equal_webs(self):
        same = Web.of_ties(CD, BD, BC, AC, AB)
        self.assertIs(same == KITE, True)
        self.assertIs(same != KITE, False)

    def test_unequal_webs(self):
        for one in WEBS:
            for other in WEBS:
                self.assertIs(one == other, one is other)
                self.assertIs(one != other, one is not other)
        self.assertNotEqual(LINE, Web.from_lines("tie a b", "tie a c", "tie a d"))

    def test_webs_equal_nothing_else(self):
        for value in [value for value in ALL_STRANGE if value is not RING] + [RING.ties, RING.places]:
            self.assertIs(RING == value, False)
            self.assertIs(RING != value, True)

    def test_str(self):
        self.assertEqual(str(FOUR), "web of 4 places, 6 ties")
        self.assertEqual(str(PAIR), "web of 2 places, 1 ties")
        self.assertEqual(str(FULLEST), "web of 9 places, 18 ties")


class FullAndRingWebs(unittest.TestCase):
    def test_full_webs(self):
        for many in range(2, 7):
            web = full_web(tuple(LETTERS[:many]))
            self.assertEqual(web.places, tuple(LETTERS[:many]))
            self.assertEqual(len(web.ties), many * (many - 1) // 2)
        self.assertEqual(full_web(("a", "b", "c", "d")), FOUR)

    def test_no_full_webs(self):
        for wrong in (
            (), ("a",), tuple("abcdefg"), tuple(LETTERS), tuple(LETTERS + "j"), ("b", "a"), ("a", "a"),
            ("a", "b", "b"), ["a", "b"], "ab", ("a", "B"), ("a", 1), (1, 2), (AB, AC), {"a": 1, "b": 2},
        ):
            with self.assertRaises(InvalidWeb):
                full_web(wrong)

    def test_every_wrong_value_is_refused(self):
        for wrong in ALL_STRANGE:
            for make in (full_web, ring_web):
                with self.assertRaises(InvalidWeb):
                    make(wrong)

    def test_ring_webs(self):
        self.assertEqual(ring_web(("c", "a", "b")), RING)
        self.assertEqual(ring_web(("a", "c", "b", "d")).ties, (("a", "c"), ("a", "d"), BC, BD))
        nine = ring_web(tuple("iebhadcgf"))
        self.assertEqual((nine.places, len(nine.ties), nine.bridges), (tuple(LETTERS), 9, ()))
        self.assertEqual([len(nine.neighbours(place)) for place in nine.places], [2] * 9)

    def test_no_ring_webs(self):
        for wrong in (
            (), ("a",), AB, ("a", "b", "a"), ("a", "b", "c", "b"), tuple(LETTERS + "j"), ["a", "b", "c"],
            "abc", ("a", "b", "C"), ("a", "b", 1), (1, 2, 3), ("a", "b", ["c"]), {"a": 1, "b": 2, "c": 3},
        ):
            with self.assertRaises(InvalidWeb):
                ring_web(wrong)


if __name__ == "__main__":
    unittest.main()
