"""[0.9] and [3.2]: is_table, all tables of a web, and the sides of rings."""

import unittest
from itertools import product

from owedround.base.rings import each_ring, ring_ties
from owedround.base.tables import Table, count_tables, each_table, is_table, sides_of, ties_within_sides
from owedround.base.webs import Web
from owedround.errors import InvalidDrawing, InvalidRing, InvalidTable, InvalidWeb
from cases import ErrorCase
from oracles import rounds_by_trial
from samples import ALL_STRANGE, FLAT, FOUR, FULLEST, KITE, LINE, NINE, ODD, PAIR, RING, SIX, STAR
from samples import TABLES, TAIL, TWIST, WEBS

WHEEL = Table.from_lines("a: b c d e", "b: a e c", "c: a b d", "d: a c e", "e: a d b")
TAILED = Table.from_lines("a: b c", "b: a d c", "c: a b d", "d: b e c", "e: d")
NO_WEBS = [value for value in ALL_STRANGE if value is not RING] + [FLAT]


class IsTable(ErrorCase):
    def test_tables(self):
        for table in TABLES:
            self.assertIs(is_table(table.web, table.rounds), True)
            self.assertIs(is_table(table.web, dict(list(table.rounds.items())[::-1])), True)

    def test_every_dict_of_tuples_of_neighbours(self):
        rounds = [rounds_by_trial(RING.neighbours(place)) for place in RING.places]
        rows = [(), ("a",), ("a", "b"), ("b", "a"), ("a", "c"), ("c", "a"), ("b", "c"), ("c", "b"), ("a", "b", "c")]
        for told in product(rows, repeat=3):
            good = all(row in fitting for row, fitting in zip(told, rounds))
            self.assertIs(is_table(RING, dict(zip("abc", told))), good)

    def test_values_of_other_kinds(self):
        for value in ALL_STRANGE + (FLAT, FLAT.lines, FLAT.rims, tuple(FLAT.rounds.items())):
            for web in (PAIR, KITE):
                self.assertIs(is_table(web, value), False)
        self.assertIs(is_table(PAIR, {"a": ("b",), "b": ("a",)}), True)
        self.assertIs(is_table(PAIR, {"a": ["b"], "b": ("a",)}), False)
        self.assertIs(is_table(PAIR, {"a": "b", "b": "a"}), False)
        self.assertIs(is_table(PAIR, {"a": ("b",), "b": ("a",), "c": ()}), False)

    def test_wrong_webs(self):
        for wrong in NO_WEBS:
            self.refused(InvalidWeb, is_table, wrong, FLAT.rounds)
            self.refused(InvalidWeb, is_table, wrong, None)


class AllTables(ErrorCase):
    def test_all_tables_ascending_each_once(self):
        for web in (PAIR, RING, KITE, FOUR, TAIL, LINE, ODD):
            rows = [rounds_by_trial(web.neighbours(place)) for place in web.places]
            expected = [dict(zip(web.places, told)) for told in product(*rows)]
            told = list(each_table(web))
            self.assertEqual([table.rounds for table in told], expected)
            self.assertEqual(count_tables(web), len(expected))
            for table in told:
                self.assertIs(type(table), Table)
                self.assertEqual(table.web, web)

    def test_count_tables(self):
        self.assertEqual([count_tables(web) for web in (PAIR, RING, KITE, FOUR, TAIL)], [1, 1, 4, 16, 8])
        self.assertEqual(count_tables(SIX.without_tie("a", "b")), 6 ** 2 * 24 ** 4)
        self.assertEqual(count_tables(FULLEST), 6 ** 9)

    def test_a_place_with_eight_neighbours(self):
        hub = Web.of_ties(*[("a", other) for other in "bcdefghi"])
        self.assertEqual(count_tables(hub), 5040)
        told = [table.round_at("a") for table in each_table(hub)]
        self.assertEqual(told, rounds_by_trial(tuple("bcdefghi")))

    def test_one_by_one(self):
        for web in (SIX, FULLEST):
            tables = each_table(web)
            self.assertIs(iter(tables), tables)
            self.assertEqual(next(tables), Table.plain(web))
            second = next(tables)
            last = web.places[-1]
            self.assertEqual(second.round_at(last), rounds_by_trial(web.neighbours(last))[1])
            self.assertEqual(second.with_round(last, web.neighbours(last)), Table.plain(web))

    def test_wrong_webs(self):
        for wrong in NO_WEBS:
            self.refused(InvalidWeb, count_tables, wrong)
            self.refused(InvalidWeb, each_table, wrong)
            each_table(wrong)  # the error comes with the first result only


def sides_by_marks(table, ring):
    """The rims of the first side, by marking all rims across ties off the ring again and again."""
    steps = list(zip(ring, ring[1:] + ring[:1]))
    first = {table.rim_along(a, b) for a, b in steps}
    for _ in table.rims:
        for a, b in table.web.ties:
            pair = {table.rim_along(a, b), table.rim_along(b, a)}
            if (a, b) not in ring_ties(ring) and pair & first:
                first |= pair
    return tuple(sorted(first)), tuple(sorted(set(table.rims) - first))


class Sides(ErrorCase):
    def drawings(self):
        yield from (WHEEL, TAILED, STAR, FLAT, WHEEL.mirror)
        for web in (KITE, FOUR, TAIL):
            yield from (table for table in each_table(web) if table.is_drawing)

    def test_by_a_second_reading_from_each_place_on(self):
        for table in self.drawings():
            for ring in each_ring(table.web):
                first, second = sides_by_marks(table, ring)
                for k in range(len(ring)):
                    turned = ring[k:] + ring[:k]
                    self.assertEqual(sides_of(table, turned), (first, second))
                    self.assertEqual(sides_of(table, turned[::-1]), (second, first))

    def test_ties_within_the_sides(self):
        for table in self.drawings():
            for ring in each_ring(table.web):
                sides = sides_of(table, ring)
                told = ties_within_sides(table, ring)
                off = [tie for tie in table.web.ties if tie not in ring_ties(ring)]
                for side, ties in zip(sides, told):
                    fitting = [tie for tie in off if table.rim_along(tie[0], tie[1]) in side]
                    self.assertEqual(ties, tuple(fitting))
                self.assertEqual(sorted(told[0] + told[1]), off)
                self.assertEqual(ties_within_sides(table, ring[1:] + ring[:1]), told)
                self.assertEqual(ties_within_sides(table, ring[::-1]), told[::-1])

    def test_the_wheel(self):
        self.assertIs(WHEEL.is_drawing, True)
        ring = ("b", "c", "d", "e")
        inside = tuple(("a", other) for other in ring)
        sides = sorted([len(side) for side in sides_of(WHEEL, ring)])
        self.assertEqual(sides, [1, 4])
        self.assertIn(inside, ties_within_sides(WHEEL, ring))
        self.assertIn((), ties_within_sides(WHEEL, ring))

    def test_a_tie_on_no_ring_is_within_one_side(self):
        self.assertIs(TAILED.is_drawing, True)
        first, second = ties_within_sides(TAILED, ("b", "c", "d"))
        self.assertEqual(sorted(first + second), [("a", "b"), ("a", "c"), ("d", "e")])

    def test_the_order_of_the_checks(self):
        good = [FLAT, ("a", "b", "c")]
        for call in (sides_of, ties_within_sides):
            for wrong in ALL_STRANGE + (KITE, FLAT.rounds):
                self.in_order(call, good, (0, wrong, InvalidTable), (1, ("a", "b", "d"), InvalidRing))
            self.in_order(call, good, (0, TWIST, InvalidDrawing), (1, None, InvalidRing))
            for wrong in ALL_STRANGE + (("a", "b", "d"), ("a", "b"), ["a", "b", "c"], ("a", "b", "c", "a"), FLAT):
                self.refused(InvalidRing, call, FLAT, wrong)
            self.refused(InvalidRing, call, Table.plain(NINE), ("a", "b", "c"))

    def test_nothing_is_shared(self):
        before = FLAT.rims
        for told in (*sides_of(FLAT, ("a", "b", "c")), *ties_within_sides(FLAT, ("a", "b", "c"))):
            self.assertIs(type(told), tuple)
        self.assertEqual(FLAT.rims, before)
        self.assertEqual([Table.plain(web).web for web in WEBS], list(WEBS))


if __name__ == "__main__":
    unittest.main()
