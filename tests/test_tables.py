"""[0.9] to [0.11] and [3.1]: the class of tables."""

import unittest
from itertools import product

from owedround.base.tables import Table, each_table, is_table
from owedround.base.webs import Web, full_web
from owedround.errors import InvalidOperation, InvalidTable, InvalidTie, InvalidWeb, ParseError, UnknownName
from cases import ErrorCase
from oracles import rims_by_marks
from samples import ALL_STRANGE, FLAT, FOUR, FULLEST, KITE, LINE, NINE, NO_PLACES, ODD, PAIR, RING, STAR
from samples import TABLES, TAIL, TWIST, WEBS

KITE_ROUNDS = {"a": ("b", "c"), "b": ("a", "c", "d"), "c": ("a", "d", "b"), "d": ("b", "c")}
NO_TABLES = (
    {},
    {"a": ("b", "c"), "b": ("a", "c", "d"), "c": ("a", "d", "b")},
    dict(KITE_ROUNDS, e=("a",)),
    dict(KITE_ROUNDS, d=("c", "b")),
    dict(KITE_ROUNDS, d=("b",)),
    dict(KITE_ROUNDS, d=("b", "b")),
    dict(KITE_ROUNDS, d=("b", "c", "b")),
    dict(KITE_ROUNDS, d=("b", "c", "a")),
    dict(KITE_ROUNDS, d=("b", "a")),
    dict(KITE_ROUNDS, d=()),
    dict(KITE_ROUNDS, d=["b", "c"]),
    dict(KITE_ROUNDS, d="bc"),
    dict(KITE_ROUNDS, d=None),
    dict(KITE_ROUNDS, d=("b", 3)),
    dict(KITE_ROUNDS, d=("b", ["c"])),
    dict(KITE_ROUNDS, d={"b": 0, "c": 1}),
    dict(KITE_ROUNDS, b=("c", "d", "a")),
    dict(KITE_ROUNDS, a=("a", "b")),
    {"a": ("b", "c"), "b": ("a", "c", "d"), "c": ("a", "d", "b"), ("d",): ("b", "c")},
    tuple(KITE_ROUNDS.items()),
    list(KITE_ROUNDS.items()),
    {"a": ("b", "c"), "b": ("a", "c"), "c": ("a", "b")},
)


class Making(ErrorCase):
    def test_from_a_dict_in_any_order(self):
        for rounds in (KITE_ROUNDS, dict(list(KITE_ROUNDS.items())[::-1])):
            self.assertEqual(Table(KITE, rounds), FLAT)
            self.assertEqual(list(Table(KITE, rounds).rounds), ["a", "b", "c", "d"])

    def test_no_tables(self):
        for wrong in NO_TABLES + ALL_STRANGE + (FLAT, KITE):
            self.refused(InvalidTable, Table, KITE, wrong)
            self.assertIs(is_table(KITE, wrong), False)

    def test_the_order_of_the_checks(self):
        for wrong in [value for value in ALL_STRANGE if value is not RING] + [FLAT, KITE.ties]:
            self.in_order(Table, [KITE, KITE_ROUNDS], (0, wrong, InvalidWeb), (1, NO_TABLES[0], InvalidTable))

    def test_plain(self):
        for web in WEBS:
            table = Table.plain(web)
            self.assertEqual(table.rounds, {place: web.neighbours(place) for place in web.places})
            self.assertEqual(table.web, web)
        for wrong in [value for value in ALL_STRANGE if value is not RING] + [FLAT]:
            self.refused(InvalidWeb, Table.plain, wrong)


class Lines(ErrorCase):
    def parse(self, number, *lines):
        self.assertEqual(self.refused(ParseError, Table.from_lines, *lines).number, number)

    def test_lines_in_any_order(self):
        self.assertEqual(Table.from_lines(*FLAT.lines[::-1]), FLAT)
        for table in TABLES:
            self.assertEqual(Table.from_lines(*table.lines), table)
            self.assertEqual(Table.from_lines(*sorted(table.lines, key=len)), table)

    def test_values_that_are_no_lines(self):
        for wrong in (
            "", "a", "a:", "a: ", "a:b", "a :b", "a : b", ": b", " a: b", "a: b ", "a:  b", "a: b  c", "a: b,c",
            "a: a", "a: a b", "a: b a", "a: b b", "a: b c b", "a: c b", "a: z b c", "A: b", "a: B", "a: b1", "a1: b",
            "abcdefghi: b", "a: abcdefghi", "a: b\n", "a:\tb", "a: b\tc", "a:: b", "a: b:", "a b c", "tie a b",
            "a: b c: d",
        ):
            self.parse(0, wrong)
            self.parse(1, "b: a", wrong)

    def test_values_of_other_kinds_are_no_lines(self):
        for wrong in ALL_STRANGE + (["a: b"], ("a: b",), FLAT, 0):
            self.parse(2, "a: b", "b: a c", wrong, "a")

    def test_a_place_told_twice(self):
        self.parse(1, "a: b", "a: b")
        self.parse(2, "a: b", "b: a c", "a: c", "nonsense")
        self.parse(1, "a: b", "nonsense", "a: b")

    def test_wrong_lines_come_before_wrong_webs_and_tables(self):
        self.parse(2, "a: b", "c: d", "nonsense")
        self.parse(2, "a: b c", "b: a c", "a: b")

    def test_lines_of_no_web(self):
        self.refused(InvalidWeb, Table.from_lines)
        self.refused(InvalidWeb, Table.from_lines, "a: b")
        self.refused(InvalidWeb, Table.from_lines, "a: b", "b: a", "c: d", "d: c")
        self.refused(InvalidWeb, Table.from_lines, "a: b c", "b: a")
        names = "abcdefg"
        rows = [one + ": " + " ".join(other for other in names if other != one) for one in names]
        self.refused(InvalidWeb, Table.from_lines, *rows)
        spokes = ["a: " + " ".join("bcdefghij")] + [one + ": a" for one in "bcdefghij"]
        self.refused(InvalidWeb, Table.from_lines, *spokes)

    def test_ties_told_by_one_place_only(self):
        self.refused(InvalidTable, Table.from_lines, "a: b c", "b: a c", "c: b")
        self.refused(InvalidTable, Table.from_lines, "a: b", "b: c", "c: a")
        self.refused(InvalidTable, Table.from_lines, "a: b c d", "b: a", "c: a", "d: b")

    def test_no_web_comes_before_ties_told_once(self):
        self.refused(InvalidWeb, Table.from_lines, "a: b z", "b: c", "c: b")
        self.refused(InvalidWeb, Table.from_lines, "a: b", "b: c", "c: b", "d: e", "e: d")

    def test_lines_tell_the_rounds(self):
        self.assertEqual(STAR.lines, ("a: b d c", "b: a c d", "c: a d b", "d: a b c"))
        self.assertEqual(Table.plain(ODD).lines,
                         ("a: ab b", "ab: a abc b z", "abc: ab z", "b: a ab", "z: ab abc"))


class Rims(ErrorCase):
    def every_table(self):
        for table in TABLES:
            yield table
        for web in (KITE, FOUR, TAIL):
            yield from each_table(web)

    def test_rims_and_lack_by_a_second_reading(self):
        for table in self.every_table():
            rims = rims_by_marks(table.rounds)
            self.assertEqual(table.rims, rims)
            lack = 2 - len(table.web.places) + len(table.web.ties) - len(rims)
            self.assertEqual(table.lack, lack)
            self.assertTrue(lack >= 0 and lack % 2 == 0)
            self.assertIs(table.is_drawing, lack == 0)

    def test_each_tie_is_walked_once_in_each_direction(self):
        for table in TABLES:
            walked = [pair for rim in table for pair in zip(rim, rim[1:] + rim[:1])]
            self.assertEqual(sorted(walked), sorted(table.web.ties + tuple((b, a) for a, b in table.web.ties)))

    def test_webs_without_rings_have_one_rim(self):
        self.assertEqual(Table.plain(PAIR).rims, (("a", "b"),))
        self.assertEqual(Table.plain(LINE).rims, (("a", "b", "c", "d", "c", "b"),))
        self.assertEqual((len(Table.plain(NINE)), Table.plain(NINE).lack), (1, 0))

    def test_some_drawings(self):
        self.assertEqual(Table.plain(RING).rims, (("a", "b", "c"), ("a", "c", "b")))
        self.assertEqual((STAR.lack, len(STAR)), (0, 4))
        self.assertEqual(sum(table.is_drawing for table in each_table(FOUR)), 2)

    def test_no_drawing_of_five_places_that_are_all_tied(self):
        five = Table.plain(full_web(("a", "b", "c", "d", "e")))
        self.assertIs(five.is_drawing, False)
        self.assertEqual(five.lack, 7 - len(five))

    def test_rim_along(self):
        for table in TABLES:
            for rim in table.rims:
                for place, other in zip(rim, rim[1:] + rim[:1]):
                    self.assertEqual(table.rim_along(place, other), rim)


class Looking(ErrorCase):
    def test_web_and_rounds(self):
        self.assertEqual((FLAT.web, FLAT.rounds), (KITE, KITE_ROUNDS))
        for table in TABLES:
            self.assertEqual([table.round_at(place) for place in table.web.places], list(table.rounds.values()))

    def test_behind_and_ahead(self):
        told = [FLAT.behind("c", other) for other in ("a", "d", "b")]
        self.assertEqual(told, ["d", "b", "a"])
        self.assertEqual([FLAT.ahead("c", other) for other in told], ["a", "d", "b"])
        line = Table.plain(NINE)
        self.assertEqual((line.behind("a", "b"), line.ahead("a", "b"), line.behind("b", "a")), ("b", "b", "c"))
        for table in TABLES:
            for place, row in table.rounds.items():
                for at, other in enumerate(row):
                    self.assertEqual(table.behind(place, other), (row + row)[at + 1])
                    self.assertEqual(table.ahead(place, other), row[at - 1])

    def test_wrong_places(self):
        for wrong in NO_PLACES:
            self.unknown(wrong, FLAT.round_at, wrong)
            for call in (FLAT.behind, FLAT.ahead, FLAT.rim_along):
                self.in_order(call, ["a", "b"], (0, wrong, UnknownName), (1, "zz", UnknownName))
                self.unknown(wrong, call, "a", wrong)

    def test_places_that_are_not_tied(self):
        for call in (FLAT.behind, FLAT.ahead, FLAT.rim_along):
            for pair in (("a", "d"), ("d", "a"), ("a", "a")):
                self.refused(InvalidTie, call, *pair)

    def test_mirror(self):
        for table in TABLES:
            mirror = table.mirror
            for place, row in table.rounds.items():
                self.assertEqual(mirror.round_at(place), row[:1] + row[:0:-1])
            turned = [rim[::-1] for rim in table.rims]
            self.assertEqual(mirror.rims, rims_by_marks(mirror.rounds))
            self.assertEqual(mirror.lack, table.lack)
            self.assertEqual(mirror.mirror, table)
            for rim in turned:
                self.assertEqual(mirror.rim_along(rim[0], rim[1]), min(rim[k:] + rim[:k] for k in range(len(rim))))


class Changing(ErrorCase):
    def test_with_round(self):
        self.assertEqual(FLAT.with_round("c", ("a", "b", "d")), TWIST)
        self.assertEqual(FLAT.with_round("c", FLAT.round_at("c")), FLAT)

    def test_wrong_rounds(self):
        for wrong in ALL_STRANGE + (
            ("d", "b", "a"), ("a", "b"), ("a", "b", "d", "d"), ("a", "b", "b"), ["a", "b", "d"], ("a", "b", "c"), FLAT,
        ):
            self.in_order(FLAT.with_round, ["c", ("a", "b", "d")], (0, "zz", UnknownName), (1, wrong, InvalidTable))
        for wrong in NO_PLACES:
            self.unknown(wrong, FLAT.with_round, wrong, None)

    def test_a_tie_more_keeps_the_lack_on_one_rim_only(self):
        for table in [FLAT, TWIST, FLAT.mirror, *each_table(TAIL)]:
            web = table.web
            pairs = [(a, b) for a, b in product(web.places, repeat=2) if a != b and not web.is_tied(a, b)]
            for a, b in pairs:
                for x, y in product(web.neighbours(a), web.neighbours(b)):
                    more = table.with_tie(a, x, b, y)
                    self.assertEqual((more.behind(a, x), more.behind(b, y)), (b, a))
                    self.assertEqual(more.without_tie(b, a), table)
                    one, other = table.rim_along(x, a), table.rim_along(y, b)
                    grown = (0, 1) if one == other else (2, -1)
                    self.assertEqual((more.lack - table.lack, len(more) - len(table)), grown)

    def test_a_tie_more_with_a_least_name(self):
        table = Table.from_lines("a: b", "b: a d c", "c: b d", "d: b c")
        more = table.with_tie("a", "b", "d", "c")
        self.assertEqual(more.lines, ("a: b d", "b: a d c", "c: b d", "d: a b c"))
        self.assertEqual(more.with_tie("c", "d", "a", "d").lines[2], "c: a b d")

    def test_the_order_of_the_checks_of_a_tie_more(self):
        good = ["a", "b", "d", "c"]
        for wrong in NO_PLACES:
            self.in_order(FLAT.with_tie, good, (0, wrong, UnknownName), (1, "zz", UnknownName),
                          (2, wrong, UnknownName), (3, "yy", UnknownName))
            self.unknown(wrong, FLAT.with_tie, "a", "b", "d", wrong)
        for told in (("a", "d", "d", "c"), ("a", "a", "d", "c"), ("a", "b", "d", "a"), ("a", "b", "d", "d"),
                     ("a", "b", "a", "b"), ("a", "b", "c", "d"), ("b", "c", "a", "b")):
            self.refused(InvalidTie, FLAT.with_tie, *told)
        self.unknown("zz", FLAT.with_tie, "a", "d", "d", "zz")

    def test_eighteen_ties(self):
        full = Table.plain(FULLEST)
        self.too_many(18, full.with_tie, "a", "b", "e", "d")
        self.refused(InvalidTie, full.with_tie, "a", "e", "e", "d")
        self.refused(InvalidTie, full.with_tie, "a", "b", "b", "a")
        self.assertEqual(len(full.without_tie("a", "b").with_tie("a", "c", "e", "d").web.ties), 18)

    def test_a_tie_less(self):
        self.assertEqual(FLAT.without_tie("a", "b").lines, ("a: c", "b: c d", "c: a d b", "d: b c"))
        self.assertEqual(STAR.without_tie("a", "b").lines, ("a: c d", "b: c d", "c: a d b", "d: a b c"))
        for wrong in NO_PLACES:
            self.in_order(FLAT.without_tie, ["a", "b"], (0, wrong, UnknownName), (1, wrong, UnknownName))
        for pair in (("a", "d"), ("a", "a")):
            self.refused(InvalidTie, FLAT.without_tie, *pair)
        self.refused(InvalidOperation, Table.plain(TAIL).without_tie, "e", "d")
        self.refused(InvalidOperation, Table.plain(PAIR).without_tie, "a", "b")

    def test_renamed(self):
        names = {"a": "z", "b": "b", "c": "a", "d": "dog"}
        table = FLAT.renamed(names)
        self.assertEqual(table.lines, ("a: b z dog", "b: a dog z", "dog: a b", "z: a b"))
        self.assertEqual(table.renamed({new: old for old, new in names.items()}), FLAT)
        for one in TABLES:
            names = dict(zip(one.web.places, one.web.places[1:] + one.web.places[:1]))
            self.assertEqual(one.renamed(names).lack, one.lack)
            self.assertEqual(one.renamed(names).web, one.web.renamed(names))

    def test_wrong_names(self):
        for wrong in ALL_STRANGE + (
            {"a": "x", "b": "y", "c": "z"}, {"a": "x", "b": "y", "c": "z", "d": "x"},
            {"a": "x", "b": "y", "c": "z", "e": "w"},
            {"a": "x", "b": "y", "c": "z", "d": "W"}, {"a": "x", "b": "y", "c": "z", "d": "w", "e": "v"}, FLAT,
        ):
            self.refused(InvalidOperation, FLAT.renamed, wrong)


class Operators(unittest.TestCase):
    def test_contains_rims_as_they_are_told(self):
        for table in TABLES:
            for rim in table.rims:
                self.assertIs(rim in table, True)
                self.assertIs(rim[1:] + rim[:1] in table, False)
                self.assertIs(list(rim) in table, False)

    def test_contains_nothing_else(self):
        for value in ALL_STRANGE + (FLAT, "a", ("a", "b", "d"), ("a", "c", "b")):
            self.assertIs(value in FLAT, False, value)

    def test_len_and_iteration(self):
        self.assertEqual([len(table) for table in (FLAT, TWIST, STAR)], [3, 1, 4])
        for table in TABLES:
            self.assertEqual(tuple(table), table.rims)
            self.assertEqual(list(iter(table)), sorted(table.rims))

    def test_equality(self):
        for one in TABLES:
            for other in TABLES:
                same = one.web == other.web and one.rounds == other.rounds
                self.assertIs(one == other, same)
                self.assertIs(one != other, not same)
        self.assertEqual(Table(Web.of_ties(*KITE.ties[::-1]), KITE_ROUNDS), FLAT)
        self.assertNotEqual(FLAT, TWIST)
        for value in ALL_STRANGE + (KITE, KITE_ROUNDS, FLAT.rims):
            self.assertIs(FLAT == value, False)
            self.assertIs(FLAT != value, True)

    def test_str(self):
        self.assertEqual(str(STAR), "table of 4 places, 6 ties, 4 rims")
        self.assertEqual(str(TWIST), "table of 4 places, 5 ties, 1 rims")


class State(unittest.TestCase):
    def test_nothing_is_shared(self):
        rounds = dict(KITE_ROUNDS)
        table = Table(KITE, rounds)
        rounds["c"] = ("a", "b", "d")
        del rounds["a"]
        table.rounds["c"] = ("a", "b", "d")
        table.rounds.clear()
        self.assertEqual(table, FLAT)
        self.assertEqual(table.rims, FLAT.rims)

    def test_no_call_changes_a_table_or_what_is_passed(self):
        before = (FLAT.lines, FLAT.rims, FLAT.lack, str(FLAT))
        names = {"d": "a", "c": "b", "b": "c", "a": "d"}
        FLAT.renamed(names)
        FLAT.with_round("c", ("a", "b", "d"))
        FLAT.with_tie("a", "b", "d", "c")
        FLAT.without_tie("a", "b")
        self.assertEqual((FLAT.lines, FLAT.rims, FLAT.lack, str(FLAT)), before)
        self.assertEqual(list(names), ["d", "c", "b", "a"])

    def test_properties_cannot_be_set(self):
        for name in ("web", "rounds", "rims", "lack", "is_drawing", "lines", "mirror"):
            with self.assertRaises(AttributeError):
                setattr(FLAT, name, None)

    def test_returned_dicts_ascend(self):
        for table in TABLES:
            self.assertEqual(list(table.rounds), sorted(table.rounds))
            for told in (table.rims, table.lines, *table.rounds.values()):
                self.assertIs(type(told), tuple)


if __name__ == "__main__":
    unittest.main()
