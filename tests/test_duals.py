"""[15.1] to [15.7]: duals."""

import random
import unittest

from owedround.base.rings import each_ring
from owedround.base.tables import Table, each_table
from owedround.base.webs import Web, full_web
from owedround.dual.duals import dual_debts, dual_leaning, dual_of, dual_ties, names_back, rest_of, rim_names
from owedround.errors import InvalidDebts, InvalidDrawing, InvalidLeaning, InvalidOperation, InvalidTable, InvalidTree
from owedround.errors import TooMany
from owedround.lean.leanings import debts_of, is_leaning, is_led, is_ringless
from owedround.owe.burning import is_reduced
from owedround.owe.classes import each_class, order_of, pairing
from owedround.owe.debts import Debts, are_alike
from owedround.tree.joining import count_trees, each_tree
from owedround.turn.busy import inner_busy, outer_busy
from owedround.turn.hands import acted
from owedround.turn.least import tour_leaning
from owedround.turn.tours import tour
from cases import ErrorCase
from oracles import cut_by_trial, first_side_by_marks, is_walked_along, leanings_of, rims_by_marks, ring_by_trial
from oracles import starts_of, trees_by_trial
from samples import ALL_STRANGE, CROSS, DUMBBELL, FLAT, FOUR, HELD, KITE, NINE, OCTA, PAIR, PRISM, RIMMED, RING, SIX
from samples import STAR, TAIL, TOUCH, TWIST, WHEEL, debts_with_total, grown_drawing, joined
from test_hands import some_trees
from test_leanings import some_leanings, turned_keys

SIXTY = 10 ** 60 - 1
SPOKES = (("a", "b"), ("a", "c"), ("a", "d"))
# A ring of five places between two more: ten rims.
TENT = Table.from_lines(
    "a: b n e s", "b: a s c n", "c: b s d n", "d: c s e n", "e: a n d s", "n: a b c d e", "s: a e d c b")
SMALL = (STAR, STAR.mirror, RIMMED, WHEEL, PRISM, dual_of(PRISM))
ALL = SMALL + (OCTA, HELD, dual_of(OCTA), dual_of(HELD))
CALLS = ((rim_names, ()), (dual_of, ()), (dual_ties, ()), (names_back, ()), (rest_of, (None,)), (dual_debts, (None,)),
         (dual_leaning, (None,)))


def sides_by_marks(table):
    """For each tie, told in both directions, the name of the rim on which one goes so."""
    rims = rims_by_marks(table.rounds)
    names = ["r" + "abcdefghi"[at] for at in range(len(rims))]
    return {step: name for name, rim in zip(names, rims) for step in zip(rim, rim[1:] + rim[:1])}


def dual_tie(table, tie):
    sides = sides_by_marks(table)
    return tuple(sorted((sides[tie], sides[tie[::-1]])))


def gone_over(table, pairs):
    """What sums of debts with 1 at v and -1 at u go to, for pairs (u, v), word for word [15.4]."""
    sides = sides_by_marks(table)
    dual = dual_of(table).web
    told = Debts.none(dual)
    for u, v in pairs:
        told = told.moved(sides[v, u], sides[u, v])
    return told


class Reasons(ErrorCase):
    def all_refuse(self, error, table):
        for call, rest in CALLS:
            self.refused(error, call, table, *rest)

    def test_values_that_are_no_tables(self):
        for wrong in ALL_STRANGE + (STAR.rounds, FOUR, SPOKES):
            self.all_refuse(InvalidTable, wrong)

    def test_tables_that_are_no_drawings(self):
        # Those of a web that is not held, and of one that would have too few or many rims, too.
        for table in (TWIST, CROSS, Table.plain(FOUR), Table.plain(SIX), Table.plain(PRISM.web), Table.plain(TENT.web)):
            self.assertFalse(table.is_drawing)
            self.all_refuse(InvalidDrawing, table)

    def test_webs_that_are_not_held(self):
        # One with too many rims, too.
        many = Table(TENT.web.with_place("h", "a"), {**TENT.rounds, "a": ("b", "n", "e", "s", "h"), "h": ("a",)})
        self.assertEqual(len(many), 10)
        tables = [FLAT, FLAT.mirror, TOUCH, many] + [
            Table.plain(web) for web in (PAIR, RING, NINE, TAIL) if Table.plain(web).is_drawing]
        for table in tables:
            self.assertTrue(table.is_drawing)
            self.all_refuse(InvalidOperation, table)

    def test_held_exactly_if_no_two_places_part_the_others(self):
        for seed in range(60):
            table = grown_drawing("abcdef"[:4 + seed % 3], 5 + seed % 7, seed)
            places = table.web.places
            held = all(joined([one for one in places if one not in (a, b)],
                              [tie for tie in table.web.ties if a not in tie and b not in tie])
                       for a in places for b in places if a < b)
            if held:
                self.assertEqual(len(dual_of(table).web), len(table.rims))
            else:
                self.all_refuse(InvalidOperation, table)

    def test_too_many_rims(self):
        for table in (TENT, TENT.mirror):
            self.assertEqual((table.lack, len(table)), (0, 10))
            for call, rest in CALLS:
                self.assertEqual(self.refused(TooMany, call, table, *rest).limit, 9)

    def test_all_behind_the_table(self):
        for wrong in ALL_STRANGE + (FLAT, SPOKES[:2], SPOKES[::-1], list(SPOKES), FOUR.ties):
            self.in_order(rest_of, [STAR, SPOKES], (0, FLAT, InvalidOperation), (1, wrong, InvalidTree))
        debts = Debts.none(FOUR)
        for wrong in ALL_STRANGE + (FLAT, SPOKES, debts.amounts):
            self.in_order(dual_debts, [STAR, debts], (0, TWIST, InvalidDrawing), (1, wrong, InvalidDebts))
        for wrong in (Debts.none(KITE), Debts.at(KITE, "a"), Debts.at(FOUR, "a"), -Debts.at(FOUR, "b", "c")):
            self.in_order(dual_debts, [STAR, debts], (0, None, InvalidTable), (1, wrong, InvalidOperation))
        leaning = {tie: tie[0] for tie in FOUR.ties}
        for wrong in ALL_STRANGE + (FLAT, {**leaning, ("a", "b"): "c"}, {**leaning, ("a", "e"): "a"}, tuple(leaning)):
            self.in_order(dual_leaning, [STAR, leaning], (0, TWIST, InvalidDrawing), (1, wrong, InvalidLeaning))
            self.assertEqual(self.refused(TooMany, dual_leaning, TENT, wrong).limit, 9)


class Tables(ErrorCase):
    def test_rim_names(self):
        for table in ALL:
            told = rim_names(table)
            self.assertEqual(list(told), ["r" + "abcdefghi"[at] for at in range(len(table))])
            self.assertEqual(tuple(told.values()), rims_by_marks(table.rounds))

    def test_the_dual(self):
        for table in ALL:
            sides = sides_by_marks(table)
            dual = dual_of(table)
            self.assertIs(type(dual), Table)
            rounds = {}
            for name, rim in rim_names(table).items():
                row = [sides[q, p] for p, q in zip(rim, rim[1:] + rim[:1])]
                rounds[name] = min(tuple(row[k:] + row[:k]) for k in range(len(row)))
            self.assertEqual(dual.rounds, rounds)
            self.assertTrue(dual.is_drawing)
            self.assertEqual(len(dual.web.ties), len(table.web.ties))
            rows = [[sides[u, place] for u in row] for place, row in table.rounds.items()]
            rims = sorted(min(tuple(row[k:] + row[:k]) for k in range(len(row))) for row in rows)
            self.assertEqual(dual.rims, tuple(rims))

    def test_all_drawings_of_some_webs(self):
        for web in (FOUR, WHEEL.web):
            drawings = [table for table in each_table(web) if table.is_drawing]
            self.assertEqual(len(drawings), 2)
            for table in drawings:
                self.assertEqual(dual_of(dual_of(table)).renamed(names_back(table)), table)

    def test_the_dual_of_the_dual(self):
        unlike = 0
        for table in ALL:
            back = names_back(table)
            self.assertEqual(list(back), list(rim_names(dual_of(table))))
            self.assertEqual(sorted(back.values()), list(table.web.places))
            again = dual_of(dual_of(table)).renamed(back)
            self.assertEqual(again, table)
            unlike += table.mirror != table
            self.assertEqual(again == table.mirror, table.mirror == table)
        self.assertEqual(unlike, len(ALL))

    def test_dual_ties(self):
        for table in ALL:
            told = dual_ties(table)
            self.assertEqual(list(told), list(table.web.ties))
            self.assertEqual(told, {tie: dual_tie(table, tie) for tie in table.web.ties})
            self.assertEqual(tuple(sorted(told.values())), dual_of(table).web.ties)

    def test_nothing_is_shared(self):
        for call in (rim_names, dual_ties, names_back):
            call(STAR).clear()
            self.assertEqual(len(call(STAR)), 6 if call is dual_ties else 4)


class Rests(ErrorCase):
    def test_all_trees(self):
        for table in SMALL:
            dual = dual_of(table)
            ties, back = dual_ties(table), names_back(table)
            told = []
            for tree in trees_by_trial(table.web):
                rest = rest_of(table, tree)
                self.assertEqual(rest, tuple(sorted(ties[tie] for tie in table.web.ties if tie not in tree)))
                told.append(rest)
                again = rest_of(dual, rest)
                named = tuple(sorted(tuple(sorted((back[a], back[b]))) for a, b in again))
                self.assertEqual(named, tree)
            self.assertEqual(sorted(told), trees_by_trial(dual.web))
            self.assertEqual(count_trees(dual.web), count_trees(table.web))

    def test_rings_and_cuts(self):
        for table in SMALL:
            dual, ties = dual_of(table).web, dual_ties(table)
            for tree in trees_by_trial(table.web)[::4]:
                rest = rest_of(table, tree)
                for tie in table.web.ties:
                    if tie in tree:
                        here, there = cut_by_trial(table.web, tree, tie), ring_by_trial(dual, rest, ties[tie])
                    else:
                        here, there = ring_by_trial(table.web, tree, tie), cut_by_trial(dual, rest, ties[tie])
                    self.assertEqual(sorted(ties[one] for one in here), sorted(there))

    def test_greater_drawings(self):
        for table in ALL:
            for tree in some_trees(table.web):
                self.assertIn(rest_of(table, tree), list(each_tree(dual_of(table).web)))


class DebtsGoOver(ErrorCase):
    def some_pairs(self, table, seed, many=12):
        rnd = random.Random(seed)
        return [rnd.choice(starts_of(table)) for _ in range(many)]

    def from_pairs(self, web, pairs):
        told = Debts.none(web)
        for u, v in pairs:
            told = told.moved(u, v)
        return told

    def back(self, table, debts):
        """What debts of the dual go back to, with the names of the table."""
        names = names_back(table)
        told = dual_debts(dual_of(table), debts)
        return Debts(table.web, {names[name]: amount for name, amount in told})

    def test_sums_of_tied_places(self):
        for table in ALL:
            for seed in range(6):
                pairs = self.some_pairs(table, seed)
                told = dual_debts(table, self.from_pairs(table.web, pairs))
                self.assertIs(are_alike(told, gone_over(table, pairs)), True)
                self.assertEqual(told.total, 0)
                self.assertEqual(told.web, dual_of(table).web)
                self.assertIs(is_reduced(told, "ra"), True)
            self.assertEqual(dual_debts(table, Debts.none(table.web)), Debts.none(dual_of(table).web))

    def test_alike_and_unlike_debts(self):
        for table in ALL:
            many = debts_with_total(table.web, 0, 6, 150, most=1000)
            for one in many:
                plan = {place: at * at - 7 for at, place in enumerate(table.web.places)}
                self.assertEqual(dual_debts(table, one.after(plan)), dual_debts(table, one))
                for other in many:
                    same = dual_debts(table, one) == dual_debts(table, other)
                    self.assertEqual(same, are_alike(one, other))
                    both = dual_debts(table, one) + dual_debts(table, other)
                    self.assertIs(are_alike(dual_debts(table, one + other), both), True)

    def test_all_classes_belong_to_each_other(self):
        for table in SMALL:
            told = [dual_debts(table, debts) for debts in each_class(table.web)]
            rows = sorted(tuple(debts)[1:] for debts in told)
            self.assertEqual(rows, [tuple(debts)[1:] for debts in each_class(dual_of(table).web)])

    def test_there_and_back(self):
        for table in ALL:
            for debts in debts_with_total(table.web, 0, 4, 151, most=9):
                self.assertIs(are_alike(self.back(table, dual_debts(table, debts)), debts), True)

    def test_orders_and_pairings(self):
        for table in ALL:
            many = debts_with_total(table.web, 0, 5, 152, most=1000)
            for one in many:
                self.assertEqual(order_of(dual_debts(table, one)), order_of(one))
                for other in many:
                    here = pairing(one, other)
                    there = pairing(dual_debts(table, one), dual_debts(table, other))
                    self.assertEqual((here[0] * there[1] + there[0] * here[1]) % (here[1] * there[1]), 0)

    def test_numbers_of_sixty_digits(self):
        for table in ALL:
            web = table.web
            far = Debts.none(web).moved(web.places[0], web.places[-1], many=SIXTY)
            told = dual_debts(table, far)
            self.assertIs(are_alike(self.back(table, told), far), True)
            self.assertEqual(dual_debts(table, far + far), dual_debts(table, far * 2))

    def test_walkers_here_and_there(self):
        # [15.5], for whichever home here and there
        for table in SMALL:
            dual = dual_of(table)
            for debts in debts_with_total(table.web, 0, 3, 153):
                over = dual_debts(table, debts)
                for tree in trees_by_trial(table.web)[::5]:
                    here = {rest_of(table, acted(table, home, tree, debts)) for home in table.web.places}
                    there = {acted(dual, home, rest_of(table, tree), over) for home in dual.web.places}
                    self.assertEqual((len(here), here), (1, there))

    def test_the_hands_are_not_turned_the_other_way(self):
        found = 0
        for debts in debts_with_total(FOUR, 0, 4, 154):
            for tree in trees_by_trial(FOUR):
                here = rest_of(STAR, acted(STAR, "a", tree, debts))
                found += here != acted(dual_of(STAR), "ra", rest_of(STAR, tree), -dual_debts(STAR, debts))
        self.assertGreater(found, 0)


class LeaningsGoOver(ErrorCase):
    def by_hand(self, table, leaning):
        """[15.6] word for word."""
        sides = sides_by_marks(table)
        told = {}
        for (a, b), end in leaning.items():
            u, v = (a, b) if end == b else (b, a)
            told[tuple(sorted((sides[u, v], sides[v, u])))] = sides[u, v]
        return told

    def leanings(self, table):
        return list(leanings_of(table.web))[::7] if len(table.web.ties) < 9 else some_leanings(table.web, 8, 155)

    def test_over_and_back(self):
        for table in ALL:
            dual, back = dual_of(table), names_back(table)
            for leaning in self.leanings(table):
                told = dual_leaning(table, turned_keys(leaning))
                self.assertEqual(told, self.by_hand(table, leaning))
                self.assertEqual(list(told), list(dual.web.ties))
                self.assertIs(is_leaning(dual.web, told), True)
                again = dual_leaning(dual, told)
                named = {tuple(sorted((back[a], back[b]))): back[end] for (a, b), end in again.items()}
                self.assertEqual(named, leaning)

    def test_rings_lean_into_their_first_side(self):
        for table in ALL:
            names = {rim: name for name, rim in rim_names(table).items()}
            for leaning in self.leanings(table)[:12]:
                told = dual_leaning(table, leaning)
                for ring in each_ring(table.web):
                    if is_walked_along(leaning, ring):
                        first = {names[rim] for rim in first_side_by_marks(table, ring)}
                        for pair in zip(ring, ring[1:] + ring[:1]):
                            tie = dual_ties(table)[tuple(sorted(pair))]
                            self.assertEqual([end in first for end in tie].count(True), 1)
                            self.assertIn(told[tie], first)

    def test_differences_of_debts(self):
        for table in ALL:
            dual, told = dual_of(table).web, self.leanings(table)[:8]
            for one in told:
                for other in told:
                    here = debts_of(table.web, one) - debts_of(table.web, other)
                    there = debts_of(dual, dual_leaning(table, one)) - debts_of(dual, dual_leaning(table, other))
                    self.assertIs(are_alike(dual_debts(table, here), there), True)

    def test_ringless_here_is_led_from_each_place_there(self):
        met = set()
        for table in ALL:
            dual = dual_of(table).web
            for leaning in self.leanings(table):
                told = dual_leaning(table, leaning)
                ringless = is_ringless(table.web, leaning)
                self.assertEqual(ringless, all(is_led(dual, told, place) for place in dual.places))
                led = all(is_led(table.web, leaning, place) for place in table.web.places)
                self.assertEqual(led, is_ringless(dual, told))
                met |= {(ringless, led)}
        self.assertEqual(len(met), 3)

    def test_nothing_is_shared_or_changed(self):
        leaning = turned_keys({tie: tie[0] for tie in FOUR.ties})
        before = list(leaning.items())
        dual_leaning(STAR, leaning).clear()
        self.assertEqual(list(leaning.items()), before)


class ToursGoOver(ErrorCase):
    def test_the_same_ties_in_the_same_order(self):
        # [15.7]
        for table in ALL:
            dual, ties, sides = dual_of(table), dual_ties(table), sides_by_marks(table)
            for tree in some_trees(table.web, 5):
                rest = rest_of(table, tree)
                for q, u in starts_of(table)[::3]:
                    here, there = tour(table, tree, q, u), tour(dual, rest, sides[q, u], sides[u, q])
                    self.assertEqual(tuple((sides[v, w], sides[w, v]) for v, w in here), there)
                    start = (sides[q, u], sides[u, q])
                    outer = outer_busy(table, tree, q, u)
                    self.assertEqual(tuple(sorted(ties[tie] for tie in outer)), inner_busy(dual, rest, *start))
                    inner = inner_busy(table, tree, q, u)
                    self.assertEqual(tuple(sorted(ties[tie] for tie in inner)), outer_busy(dual, rest, *start))
                    leaning = dual_leaning(table, tour_leaning(table, tree, q, u))
                    self.assertEqual(leaning, tour_leaning(dual, rest, *start))


class Names(ErrorCase):
    def test_places_that_are_called_like_rims(self):
        dual = dual_of(RIMMED)
        self.assertEqual(dual.web.places, ("ra", "rb", "rc", "rd"))
        self.assertEqual(sorted(names_back(RIMMED).values()), ["r", "ra", "rb", "rd"])
        self.assertEqual(dual_of(dual).renamed(names_back(RIMMED)), RIMMED)
        self.assertEqual(dual_of(RIMMED).web, full_web(("ra", "rb", "rc", "rd")))
        self.assertIs(type(dual.web), Web)
        self.assertNotEqual(DUMBBELL, dual.web)


if __name__ == "__main__":
    unittest.main()
