"""[0.12] to [0.20]: what the document promises over the whole program, and what it says is not true."""

import unittest
from itertools import product

from owedround.base.rings import each_ring
from owedround.base.tables import Table, each_table
from owedround.dual.duals import dual_debts, dual_leaning, dual_of, rest_of
from owedround.flat.papers import is_difference, is_disagreement, is_unturned_ring
from owedround.lean.broken import broken_alike, each_broken
from owedround.lean.leanings import debts_of, is_led, is_ringless
from owedround.lean.ways import is_way, leaning_alike, led_leaning, way_between
from owedround.owe.burning import each_reduced, is_reduced, reduced
from owedround.owe.classes import each_class, pairing
from owedround.owe.debts import Debts, are_alike
from owedround.tree.joining import count_trees, each_tree
from owedround.turn.busy import busy_counts, levels, told_at
from owedround.turn.hands import acted, leading, sent
from owedround.turn.least import each_least, is_least, least_of, tour_leaning
from owedround.turn.rides import count_rounds, ride_class, round_of, stepped, steps_to_turn, turning_debts
from owedround.turn.tours import broken_by, toured
from cases import ErrorCase
from oracles import leanings_of, starts_of
from samples import CROSS, DUMBBELL, FLAT, FOUR, HELD, KITE, LINE, OCTA, ODD, PAIR, PRISM, RING, STAR, TAIL, TOUCH
from samples import TWIST, WHEEL, debts_with_total, grown_drawing, tables_of
from test_rides import all_rides, loop_by_hand

WEBS = (PAIR, RING, KITE, FOUR, TAIL, LINE, TOUCH.web, DUMBBELL, ODD)
TABLES = (FLAT, TWIST, STAR, TOUCH, CROSS) + tuple(tables_of(FOUR, 2, 180) + tables_of(TAIL, 2, 181))


def numbers(debts):
    return tuple(debts.amounts.values())


class Counts(ErrorCase):
    def test_as_many_classes_broken_debts_and_rounds_as_trees(self):
        # [0.12], [0.13], [0.14]
        for web in WEBS:
            many = count_trees(web)
            self.assertEqual(len(list(each_tree(web))), many)
            self.assertEqual(len(list(each_class(web))), many)
            self.assertEqual(len(list(each_broken(web))), many)
            self.assertEqual(count_rounds(web), many)
            for place, total in product(web.places[:3], (-5, 0, 1, 7, 10 ** 20)):
                told = list(each_reduced(web, place, total))
                self.assertEqual(len(told), many)
                self.assertEqual([reduced(debts.lent(place, many=3), place) for debts in told], told)

    def test_each_class_has_just_one_broken_debts(self):
        for web in WEBS:
            told = [broken_alike(debts) for debts in each_reduced(web, web.places[0], web.spare)]
            self.assertEqual(sorted(map(numbers, told)), list(map(numbers, each_broken(web))))

    def test_classes_have_leanings_and_ways_lead_between_them(self):
        for web in WEBS:
            for debts in each_reduced(web, web.places[-1], web.spare - 1):
                one, other = leaning_alike(debts), led_leaning(debts, web.places[0])
                self.assertIs(are_alike(debts_of(web, one), debts), True)
                self.assertIs(is_way(web, one, other, way_between(web, one, other)), True)

    def test_rides_come_back_behind_a_round(self):
        for table in TABLES:
            for ride in list(all_rides(table))[::11]:
                told = round_of(table, ride)
                self.assertEqual(len(told), 2 * len(table.web.ties))
                self.assertEqual(stepped(table, told[-1]), ride)
                self.assertEqual(len({ride_class(table, one).lines for one in told}), 1)

    def test_busy_ties_count_leanings_debts_and_sets(self):
        # [0.18]
        for web in (RING, KITE, FOUR, TAIL, TOUCH.web):
            tables = list(each_table(web))[:6]
            counts = [busy_counts(table, *start) for table in tables for start in starts_of(table)[::4]]
            self.assertTrue(all(one == counts[0] for one in counts))
            leanings = list(leanings_of(web))
            self.assertEqual(told_at(counts[0], 2, 2), len(leanings))
            self.assertEqual(told_at(counts[0], 2, 0), len([one for one in leanings if is_ringless(web, one)]))
            self.assertEqual(told_at(counts[0], 2, 1), len({debts_of(web, one).lines for one in leanings}))
            for place in web.places:
                self.assertEqual(told_at(counts[0], 1, 2), len([one for one in leanings if is_led(web, one, place)]))
                self.assertEqual(sum(levels(web, place)), told_at(counts[0], 1, 1))


class Actions(ErrorCase):
    def test_both_lead_from_each_tree_to_each_tree(self):
        # [0.14], [0.15]
        for table in TABLES:
            web, trees = table.web, list(each_tree(table.web))
            home = web.places[-1]
            for tree in trees[::3]:
                self.assertEqual(sorted(acted(table, home, tree, debts) for debts in each_class(web)), trees)
                self.assertEqual(sorted(toured(table, home, tree, debts) for debts in each_class(web)), trees)

    def test_tours_make_trees_and_broken_debts_one_to_one(self):
        for table in TABLES:
            for start in starts_of(table)[::5]:
                told = sorted(numbers(broken_by(table, tree, *start)) for tree in each_tree(table.web))
                self.assertEqual(told, list(map(numbers, each_broken(table.web))))

    def agree(self, table):
        """Whether homes agree, walkers agree with tours, and rings are turned, each told apart."""
        web, trees = table.web, list(each_tree(table.web))
        homes = tours = True
        for place in web.places[1:]:
            debts = Debts.at(web, place) - Debts.at(web, web.places[0])
            for tree in trees:
                told = [acted(table, home, tree, debts) for home in web.places]
                homes = homes and told == told[:1] * len(told)
                tours = tours and told == [toured(table, home, tree, debts) for home in web.places]
        none = Debts.none(web)
        rings = all(are_alike(turning_debts(table, ring), none) for ring in each_ring(web))
        return (homes, tours, rings)

    def test_all_agree_exactly_for_drawings(self):
        # [0.16]
        met = set()
        for web in (PAIR, LINE, RING, KITE, FOUR, TOUCH.web, TAIL):
            for table in list(each_table(web))[:12]:
                self.assertEqual(self.agree(table), (table.is_drawing,) * 3, table.lines)
                met |= {table.is_drawing}
        self.assertEqual(met, {True, False})

    def test_greater_drawings_agree(self):
        for table in (WHEEL, PRISM, OCTA, HELD, grown_drawing("abcdefghi", 18, 12)):
            web = table.web
            for debts in debts_with_total(web, 0, 2, 182, most=1000):
                for tree in list(each_tree(web))[::count_trees(web) // 3]:
                    told = {acted(table, home, tree, debts) for home in web.places}
                    told |= {toured(table, home, tree, debts) for home in web.places[:3]}
                    self.assertEqual(len(told), 1)
                    value = (web.places[0], web.places[-1], tree, debts)
                    self.assertIs(is_difference(table, value), False)
                    self.assertIs(is_disagreement(table, value[1:]), False)
            for ring in list(each_ring(web))[::11]:
                self.assertIs(is_unturned_ring(table, ring), False)

    def test_each_class_has_just_one_leaning_that_is_led_and_least(self):
        # [0.17]
        for table in (FLAT, STAR, TOUCH, WHEEL):
            web = table.web
            for rim, place in product(table.rims[:2], web.places[:3]):
                told = list(each_least(table, rim, place))
                classes = {reduced(debts_of(web, one), place).lines for one in told}
                self.assertEqual((len(classes), len(told)), (count_trees(web),) * 2)
                for debts in each_reduced(web, place, web.spare - 1):
                    self.assertIn(least_of(table, rim, led_leaning(debts, place)), told)
            for place, neighbour in starts_of(table)[::3]:
                for tree in each_tree(web):
                    leaning = tour_leaning(table, tree, place, neighbour)
                    self.assertIs(is_least(table, table.rim_along(place, neighbour), leaning), True)

    def test_duals(self):
        # [0.19]
        for table in (STAR, WHEEL, PRISM):
            dual, trees = dual_of(table), list(each_tree(table.web))
            self.assertEqual(sorted(rest_of(table, tree) for tree in trees), list(each_tree(dual.web)))
            one, other = debts_with_total(table.web, 0, 2, 183, most=1000)
            for tree in trees[::7]:
                self.assertEqual(rest_of(table, acted(table, "a", tree, one)),
                                 acted(dual, "rb", rest_of(table, tree), dual_debts(table, one)))
            here, there = pairing(one, other), pairing(dual_debts(table, one), dual_debts(table, other))
            self.assertEqual((here[0] * there[1] + there[0] * here[1]) % (here[1] * there[1]), 0)
            for tree in trees[::9]:
                leaning = tour_leaning(table, tree, *starts_of(table)[0])
                over = dual_leaning(table, leaning)
                led = all(is_led(dual.web, over, one) for one in dual.web.places)
                self.assertEqual(is_ringless(table.web, leaning), led)


class NotTrue(ErrorCase):
    """[0.20]: of each thing that is not true there is a case against it."""

    def test_reduced_at_a_place_but_not_at_its_neighbours(self):
        debts = [one for one in each_reduced(KITE, "a", 0) if not is_reduced(one, "b")]
        self.assertTrue(debts)

    def test_the_order_of_walkers_does_not_matter_in_any_table(self):
        for table in TABLES:
            for tree in list(each_tree(table.web))[::2]:
                self.assertEqual(sent(table, "a", tree, "b", "c", "d"), sent(table, "a", tree, "d", "c", "b"))

    def test_homes_do_not_act_alike_on_all_tables_of_a_web_that_has_a_drawing(self):
        self.assertTrue(FLAT.is_drawing)
        self.assertEqual(FLAT.web, TWIST.web)
        found = [tree for tree in each_tree(KITE) for debts in each_class(KITE)
                 if acted(TWIST, "a", tree, debts) != acted(TWIST, "d", tree, debts)]
        self.assertTrue(found)

    def test_at_some_home_walkers_and_tours_agree_though_it_is_no_drawing(self):
        told = {}
        for home in CROSS.web.places:
            told[home] = all(acted(CROSS, home, tree, debts) == toured(CROSS, home, tree, debts)
                             for tree in each_tree(CROSS.web) for debts in each_class(CROSS.web))
        self.assertEqual(told, {"a": True, "b": False, "c": False, "d": False, "e": False})

    def test_the_mirror_does_not_act_by_opposite_debts(self):
        for table in (FLAT, STAR, TWIST):
            same = [acted(table.mirror, "a", tree, debts) == acted(table, "a", tree, -debts)
                    for tree in each_tree(table.web) for debts in each_class(table.web)]
            self.assertFalse(all(same))

    def test_some_rings_of_a_table_that_is_no_drawing_are_turned(self):
        told = {is_unturned_ring(CROSS, ring) for ring in each_ring(CROSS.web)}
        many = {is_unturned_ring(table, ring) for table in tables_of(FOUR, 5, 184) for ring in each_ring(FOUR)
                if not table.is_drawing}
        self.assertEqual(told | many, {True, False})

    def test_steps_to_turn_do_not_hang_on_hands_off_the_ring(self):
        for table in (FLAT, STAR, TOUCH, TWIST):
            told = {}
            for ride in all_rides(table):
                loop = loop_by_hand(ride)
                if len(loop) > 2:
                    k = loop.index(min(loop))
                    told.setdefault(loop[k:] + loop[:k], set()).add(steps_to_turn(table, ride))
            self.assertTrue(all(len(row) == 1 for row in told.values()))

    def test_leading_differs_by_homes_where_it_is_no_drawing(self):
        trees = list(each_tree(KITE))
        told = {are_alike(leading(TWIST, "a", one, other), leading(TWIST, "d", one, other))
                for one, other in product(trees, trees)}
        self.assertEqual(told, {True, False})


class Plain(ErrorCase):
    def test_equal_calls_return_equal_results(self):
        for table in TABLES:
            tree = next(each_tree(table.web))
            debts = debts_with_total(table.web, 0, 1, 185)[0]
            for call in (lambda: acted(table, "a", tree, debts), lambda: toured(table, "b", tree, debts),
                         lambda: list(each_reduced(table.web, "a", 0)), lambda: Table.plain(table.web)):
                self.assertEqual(call(), call())


if __name__ == "__main__":
    unittest.main()
