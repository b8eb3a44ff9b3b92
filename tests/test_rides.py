"""[11.1] to [11.7]: rides."""

import unittest
from itertools import product

from owedround.base.rings import each_ring
from owedround.base.tables import Table, each_table, ties_within_sides
from owedround.errors import InvalidNumber, InvalidOperation, InvalidRide, InvalidRing, InvalidTable, InvalidTie
from owedround.errors import InvalidTree, InvalidWeb, UnknownName
from owedround.owe.burning import is_reduced
from owedround.owe.debts import Debts, are_alike
from owedround.turn.rides import count_rounds, is_ride, loop_of, ride_at, ride_class, round_of, same_round
from owedround.turn.rides import stepped, stepped_back, steps_to_turn, tree_of_ride, turned_ride, turning_debts
from cases import ErrorCase
from oracles import behind_by_hand, hands_by_hand, starts_of, trees_by_trial
from samples import ALL_STRANGE, CROSS, DUMBBELL, FLAT, FOUR, FULLEST, HELD, KITE, LINE, NO_PLACES, OCTA, ODD, PAIR
from samples import PRISM, RING, STAR, TABLES, TAIL, TOUCH, TWIST, WEBS, WHEEL, grown_drawing, tables_of

SIXTY = 10 ** 60 - 1
RIDE = ({"a": "b", "b": "c", "c": "a", "d": "b"}, "a")
TWO = ({"a": "b", "b": "a", "c": "a", "d": "b"}, "b")
NO_TABLES = ALL_STRANGE + (FLAT.rounds, KITE, RIDE)
SMALL_TABLES = (FLAT, TWIST, STAR, TOUCH, CROSS) + tuple(tables_of(FOUR, 2, 110) + tables_of(TAIL, 2, 111))
GREAT_TABLES = (WHEEL, PRISM, OCTA, HELD) + TABLES + tuple(tables_of(FULLEST, 2, 112))
NO_RIDES = ALL_STRANGE + (
    (), RIDE[0], RIDE[::-1], list(RIDE), RIDE + (None,), (RIDE[0],), (RIDE[0], "d"), (RIDE[0], "zz"), (RIDE[0], None),
    (RIDE[0], ["a"]), (None, "a"), ("abcd", "a"), (tuple(RIDE[0].items()), "a"), ({}, "a"),
    ({"a": "b", "b": "c", "c": "a"}, "a"), ({**RIDE[0], "e": "a"}, "a"), ({**RIDE[0], "a": "d"}, "a"),
    ({**RIDE[0], "a": "a"}, "a"), ({**RIDE[0], "a": None}, "a"), ({**RIDE[0], "a": ["b"]}, "a"),
    ({**RIDE[0], "d": ("b",)}, "a"), ({"a": "b", "b": "a", "c": "d", "d": "c"}, "a"), (RIDE[0], 0),
    ({0: "b", "b": "c", "c": "a", "d": "b"}, "a"), ({**RIDE[0], "d": "c", "c": "d"}, "a"), FLAT, KITE,
)


def hands_of_all(web):
    """All dicts from all places to neighbours."""
    for row in product(*[web.neighbours(place) for place in web.places]):
        yield dict(zip(web.places, row))


def judge(web, hands, place):
    """[11.1] word for word: from each place one comes to the same loop, on which the walker is."""
    loops = set()
    for here in web.places:
        for _ in web.places:
            here = hands[here]
        loop = {here}
        while hands[here] not in loop:
            here = hands[here]
            loop.add(here)
        loops.add(frozenset(loop))
    return len(loops) == 1 and place in list(loops)[0]


def step_by_hand(table, ride):
    """[11.2] word for word."""
    hands, place = dict(ride[0]), ride[1]
    hands[place] = behind_by_hand(table, place, hands[place])
    return (hands, hands[place])


def loop_by_hand(ride):
    hands, place = ride
    loop = [place]
    while hands[loop[-1]] != place:
        loop.append(hands[loop[-1]])
    return tuple(loop)


def turned_by_hand(ride):
    hands, place = dict(ride[0]), ride[1]
    loop = loop_by_hand(ride)
    for at, here in enumerate(loop):
        hands[here] = loop[at - 1]
    return (hands, place)


def all_rides(table):
    """All rides of a table: one for each tree, place and neighbour."""
    for tree in trees_by_trial(table.web):
        for place, neighbour in starts_of(table):
            yield ({**hands_by_hand(tree, place), place: neighbour}, place)


def some_rides(table, many):
    trees = trees_by_trial(table.web) if len(table.web.ties) < 13 else [tree_along(table.web)]
    starts = starts_of(table)
    return [({**hands_by_hand(trees[7 * k % len(trees)], starts[5 * k % len(starts)][0]),
              starts[5 * k % len(starts)][0]: starts[5 * k % len(starts)][1]}, starts[5 * k % len(starts)][0])
            for k in range(many)]


def tree_along(web):
    """Some joining tree."""
    tree, found = [], {web.places[0]}
    while len(found) < len(web.places):
        tie = [tie for tie in web.ties if (tie[0] in found) != (tie[1] in found)][-1]
        tree.append(tie)
        found |= set(tie)
    return tuple(sorted(tree))


class Judged(ErrorCase):
    def test_all_hands_and_places(self):
        for table in (FLAT, STAR, TOUCH, Table.plain(TAIL), Table.plain(PAIR), Table.plain(LINE), Table.plain(RING)):
            rides = list(all_rides(table))
            found = 0
            for hands in hands_of_all(table.web):
                for place in table.web.places:
                    expected = judge(table.web, hands, place)
                    self.assertIs(is_ride(table, (hands, place)), expected)
                    self.assertEqual((hands, place) in rides, expected)
                    found += expected
            self.assertEqual(found, len(rides))

    def test_keys_in_any_order(self):
        for hands, place in list(all_rides(FLAT))[::5]:
            self.assertIs(is_ride(FLAT, (dict(list(hands.items())[::-1]), place)), True)

    def test_values_near_rides(self):
        self.assertIs(is_ride(FLAT, RIDE), True)
        for value in NO_RIDES:
            self.assertIs(is_ride(FLAT, value), False, value)

    def test_wrong_rides_and_tables(self):
        calls = (loop_of, stepped, stepped_back, tree_of_ride, round_of, ride_class, steps_to_turn, turned_ride)
        for call in calls:
            for wrong in NO_TABLES:
                self.in_order(call, [FLAT, RIDE], (0, wrong, InvalidTable), (1, None, InvalidRide))
            for wrong in NO_RIDES:
                self.refused(InvalidRide, call, FLAT, wrong)
        for wrong in NO_TABLES:
            self.refused(InvalidTable, is_ride, wrong, RIDE)
            self.in_order(same_round, [FLAT, RIDE, TWO], (0, wrong, InvalidTable), (1, None, InvalidRide),
                          (2, (RIDE[0], "d"), InvalidRide))
        for wrong in NO_RIDES:
            self.in_order(same_round, [FLAT, RIDE, TWO], (1, wrong, InvalidRide), (2, wrong, InvalidRide))


class Steps(ErrorCase):
    def same(self, table, told, expected):
        """The rides are equal, and the keys of the told one ascend."""
        self.assertEqual(told, expected)
        self.assertEqual(list(told[0]), list(table.web.places))
        self.assertIs(type(told), tuple)

    def test_all_rides_there_and_back(self):
        for table in SMALL_TABLES:
            for ride in all_rides(table):
                behind = stepped(table, ride)
                self.same(table, behind, step_by_hand(table, ride))
                self.same(table, stepped_back(table, behind), ride)
                self.same(table, stepped(table, stepped_back(table, ride)), ride)
                self.assertTrue(judge(table.web, *behind))

    def test_a_step_back_by_its_own_words(self):
        for table in SMALL_TABLES:
            for hands, place in list(all_rides(table))[::7]:
                before = loop_by_hand((hands, place))[-1]
                row = table.rounds[before]
                told = ({**hands, before: row[row.index(place) - 1]}, before)
                self.assertEqual(stepped_back(table, (hands, place)), told)

    def test_many_steps(self):
        for table in SMALL_TABLES + GREAT_TABLES:
            whole = 2 * len(table.web.ties)
            for ride in some_rides(table, 3):
                there = ride
                for many in range(whole + 1):
                    self.same(table, stepped(table, ride, many=many), there)
                    self.same(table, stepped_back(table, there, many=many), ride)
                    self.assertEqual(there == ride, many % whole == 0)
                    there = step_by_hand(table, there)

    def test_very_many_steps(self):
        for table in GREAT_TABLES:
            whole = 2 * len(table.web.ties)
            for ride in some_rides(table, 2):
                for many in (10 ** 59, SIXTY, SIXTY - 1, 10 ** 20):
                    self.same(table, stepped(table, ride, many=many), stepped(table, ride, many=many % whole))
                    self.same(table, stepped_back(table, ride, many=many), stepped_back(table, ride, many=many % whole))
                    self.same(table, stepped_back(table, stepped(table, ride, many=many), many=many), ride)

    def test_wrong_numbers(self):
        for call in (stepped, stepped_back):
            for wrong in ALL_STRANGE + (-1, -SIXTY, 10 ** 60, 10 ** 99, "1", FLAT):
                self.in_order(call, ([FLAT, RIDE], {"many": 1}), (0, None, InvalidTable), (1, RIDE[0], InvalidRide),
                              ("many", wrong, InvalidNumber))


class Trees(ErrorCase):
    def test_there_and_back(self):
        for table in SMALL_TABLES:
            for tree in trees_by_trial(table.web):
                for place, neighbour in starts_of(table):
                    ride = ride_at(table, tree, place, neighbour)
                    self.assertEqual(ride, ({**hands_by_hand(tree, place), place: neighbour}, place))
                    self.assertEqual(list(ride[0]), list(table.web.places))
                    self.assertIs(is_ride(table, ride), True)
                    self.assertEqual(tree_of_ride(table, ride), tree)
                    self.assertEqual(loop_of(table, ride), loop_by_hand(ride))

    def test_greater_webs(self):
        for table in GREAT_TABLES:
            for ride in some_rides(table, 6):
                tree = tree_of_ride(table, ride)
                self.assertEqual(ride_at(table, tree, ride[1], ride[0][ride[1]]), ride)
                self.assertEqual(loop_of(table, ride), loop_by_hand(ride))

    def test_the_order_of_the_checks(self):
        tree = tree_of_ride(FLAT, RIDE)
        good = [FLAT, tree, "a", "b"]
        self.in_order(ride_at, good, (0, KITE, InvalidTable), (1, tree[:2], InvalidTree), (2, "zz", UnknownName),
                      (3, "yy", UnknownName))
        self.in_order(ride_at, good, (1, None, InvalidTree), (3, "d", InvalidTie))
        for wrong in NO_TABLES:
            self.in_order(ride_at, good, (0, wrong, InvalidTable), (2, wrong, UnknownName))
        for wrong in ALL_STRANGE + (tree[::-1], list(tree), KITE.ties):
            self.in_order(ride_at, good, (1, wrong, InvalidTree), (2, "zz", UnknownName))
        for wrong in NO_PLACES:
            self.in_order(ride_at, good, (2, wrong, UnknownName), (3, "a", InvalidTie))
            self.unknown(wrong, ride_at, FLAT, tree, "a", wrong)
        for wrong in ("a", "d"):
            self.refused(InvalidTie, ride_at, FLAT, tree, "a", wrong)


class Rounds(ErrorCase):
    def test_each_place_and_neighbour_once(self):
        for table in SMALL_TABLES + GREAT_TABLES:
            for ride in some_rides(table, 2):
                told = round_of(table, ride)
                self.assertEqual(told[0], ride)
                self.assertEqual(sorted((place, hands[place]) for hands, place in told), sorted(starts_of(table)))
                for one, other in zip(told, told[1:] + told[:1]):
                    self.assertEqual(step_by_hand(table, one), other)
                    self.assertEqual(list(one[0]), list(table.web.places))
                # Each tie is walked once each way, and each hand is turned round once.
                self.assertEqual(len(told), 2 * len(table.web.ties))

    def test_as_many_rounds_as_trees(self):
        for table in SMALL_TABLES:
            left, many = list(all_rides(table)), 0
            while left:
                told = round_of(table, left[0])
                self.assertTrue(all(ride in left for ride in told))
                left = [ride for ride in left if ride not in told]
                many += 1
            self.assertEqual(many, len(trees_by_trial(table.web)))
            self.assertEqual(count_rounds(table.web), many)

    def test_count_rounds(self):
        self.assertEqual([count_rounds(web) for web in WEBS], [3, 8, 16, 1, 8, 1, 9, 1296, 1, 10404])
        for wrong in [value for value in ALL_STRANGE if value is not RING] + [FLAT, Debts.none(KITE)]:
            self.refused(InvalidWeb, count_rounds, wrong)

    def test_same_round_against_classes(self):
        for table in (FLAT, TWIST, STAR, CROSS, Table.plain(RING), Table.plain(LINE)):
            rides = list(all_rides(table))
            classes = [ride_class(table, ride) for ride in rides]
            for k in range(0, len(rides), 7):
                told = round_of(table, rides[k])
                for m in range(0, len(rides), 3):
                    same = rides[m] in told
                    self.assertIs(same_round(table, rides[k], rides[m]), same)
                    self.assertEqual(classes[k] == classes[m], same)

    def test_same_round_with_keys_in_any_order(self):
        hands, place = stepped(FLAT, RIDE, many=3)
        one, other = (dict(list(RIDE[0].items())[::-1]), "a"), (dict(list(hands.items())[::-1]), place)
        self.assertIs(same_round(FLAT, one, other), True)

    def test_nothing_is_shared(self):
        told = round_of(FLAT, RIDE)
        for hands, _ in told:
            hands["d"] = "zz"
        self.assertEqual(round_of(FLAT, RIDE)[0], RIDE)
        for call in (stepped, stepped_back, turned_ride):
            for ride in (RIDE, TWO):
                call(FLAT, ride)[0].clear()
                stepped(FLAT, ride, many=0)[0].clear()
                self.assertEqual(len(ride[0]), 4)


class Classes(ErrorCase):
    def given_by_hand(self, table, hands):
        """[11.6] word for word."""
        amounts = {place: 0 for place in table.web.places}
        for place, wanted in hands.items():
            here = table.rounds[place][0]
            while here != wanted:
                here = behind_by_hand(table, place, here)
                amounts[place] -= 1
                amounts[here] += 1
        return Debts(table.web, amounts)

    def test_classes_of_rides(self):
        for table in SMALL_TABLES + GREAT_TABLES:
            for ride in some_rides(table, 6):
                told = ride_class(table, ride)
                expected = Debts.at(table.web, ride[1]) - self.given_by_hand(table, ride[0])
                self.assertIs(are_alike(told, expected), True)
                self.assertEqual(told.total, 1)
                self.assertIs(is_reduced(told, table.web.places[0]), True)
                self.assertEqual(ride_class(table, stepped(table, ride)), told)

    def test_all_classes_are_there(self):
        for table in SMALL_TABLES:
            told = {ride_class(table, ride).lines for ride in all_rides(table)}
            self.assertEqual(len(told), len(trees_by_trial(table.web)))


class Turning(ErrorCase):
    def steps_by_hand(self, table, ride):
        """[11.5] word for word, step by step."""
        wanted, there = turned_by_hand(ride), ride
        for many in range(1, 2 * len(table.web.ties)):
            there = step_by_hand(table, there)
            if there == wanted:
                return many
        return None

    def test_all_rides(self):
        for table in SMALL_TABLES + (Table.plain(ODD), Table.plain(DUMBBELL)):
            for ride in list(all_rides(table))[::2]:
                told = turned_ride(table, ride)
                self.assertEqual(told, turned_by_hand(ride))
                self.assertEqual(list(told[0]), list(table.web.places))
                loop = loop_by_hand(ride)
                if len(loop) == 2:
                    self.assertEqual(told, ride)
                    self.refused(InvalidOperation, steps_to_turn, table, ride)
                else:
                    many = steps_to_turn(table, ride)
                    self.assertEqual(many, self.steps_by_hand(table, ride))
                    self.assertEqual(many is not None, are_alike(turning_debts(table, loop), Debts.none(table.web)))
                    self.assertIs(same_round(table, ride, told), many is not None)

    def test_ties_on_the_second_side_in_drawings(self):
        drawings = [FLAT, STAR, TOUCH, WHEEL, PRISM, OCTA, HELD] + [grown_drawing("abcdefg", 10, k) for k in range(4)]
        for table in drawings:
            self.assertTrue(table.is_drawing)
            for ring in list(each_ring(table.web))[::5]:
                ride = self.ride_along(table, ring)
                self.assertEqual(loop_of(table, ride), ring)
                _, second = ties_within_sides(table, ring)
                self.assertEqual(steps_to_turn(table, ride), 2 * len(second) + len(ring))
                self.assertEqual(steps_to_turn(table, turned_ride(table, ride)),
                                 2 * len(table.web.ties) - 2 * len(second) - len(ring))

    def ride_along(self, table, ring):
        """Some ride along a ring, from its first place on."""
        hands = dict(zip(ring, ring[1:] + ring[:1]))
        while len(hands) < len(table.web.places):
            for place in table.web.places:
                near = [other for other in table.web.neighbours(place) if other in hands]
                if place not in hands and near:
                    hands[place] = near[-1]
        return (hands, ring[0])

    def test_walker_other_hands_and_direction_do_not_matter(self):
        for table in (FLAT, TWIST, CROSS) + tuple(tables_of(FOUR, 3, 113)):
            told = {}
            for ride in all_rides(table):
                loop = loop_by_hand(ride)
                if len(loop) > 2:
                    ties = frozenset(frozenset(pair) for pair in zip(loop, loop[1:] + loop[:1]))
                    told.setdefault(ties, set()).add(steps_to_turn(table, ride) is None)
            self.assertEqual([len(row) for row in told.values()], [1] * len(told))
            self.assertEqual(any(True in row for row in told.values()), not table.is_drawing)

    def test_turning_debts(self):
        for table in SMALL_TABLES + GREAT_TABLES:
            for ring in list(each_ring(table.web))[::9]:
                amounts = {place: 0 for place in table.web.places}
                for before, place, ahead in zip(ring[-1:] + ring, ring, ring[1:] + ring[:1]):
                    here = ahead
                    while here != before:
                        here = behind_by_hand(table, place, here)
                        amounts[place] -= 1
                        amounts[here] += 1
                for k in range(len(ring)):
                    told = turning_debts(table, ring[k:] + ring[:k])
                    self.assertEqual((told.amounts, told.web), (amounts, table.web))
                none = Debts.none(table.web)
                vanish = are_alike(turning_debts(table, ring), none)
                self.assertEqual(vanish, are_alike(turning_debts(table, ring[::-1]), none))
                self.assertEqual(vanish, steps_to_turn(table, self.ride_along(table, ring)) is not None)

    def test_a_drawing_exactly_if_all_vanish(self):
        for web in (KITE, FOUR, TOUCH.web):
            for table in each_table(web):
                vanish = all(are_alike(turning_debts(table, ring), Debts.none(web)) for ring in each_ring(web))
                self.assertEqual(vanish, table.is_drawing)

    def test_wrong_rings(self):
        for wrong in NO_TABLES:
            self.in_order(turning_debts, [FLAT, ("a", "b", "c")], (0, wrong, InvalidTable), (1, None, InvalidRing))
        for wrong in ALL_STRANGE + (
            ("a", "b", "d"), ("a", "b"), ["a", "b", "c"], ("a", "b", "c", "a"), ("a", "b", 3), FLAT,
        ):
            self.refused(InvalidRing, turning_debts, FLAT, wrong)

    def test_loops_of_two_places_behind_the_other_checks(self):
        self.refused(InvalidOperation, steps_to_turn, FLAT, TWO)
        self.refused(InvalidTable, steps_to_turn, KITE, TWO)
        self.assertEqual(turned_ride(FLAT, TWO), TWO)


if __name__ == "__main__":
    unittest.main()
