"""[7.1] to [7.3]: orders, heights and pairings of debts of total 0."""

import random
import unittest
from fractions import Fraction

from owedround.base.words import is_fraction
from owedround.errors import InvalidDebts, InvalidOperation, InvalidWeb
from owedround.owe.burning import each_reduced
from owedround.owe.classes import each_class, heights_of, order_of, pairing
from owedround.owe.debts import Debts, are_alike, is_plan
from owedround.tree.joining import count_trees
from cases import ErrorCase
from oracles import gap_of_heights, reduced_by_hand
from samples import ALL_STRANGE, DUMBBELL, FLAT, FOUR, FULLEST, KITE, LINE, NINE, PAIR, RING, SMALL, TAIL, WEBS

SIXTY = 10 ** 60 - 1
STEP = Debts.from_lines(KITE, "a owes 1", "b has 1")
NO_WEBS = [value for value in ALL_STRANGE if value is not RING] + [FLAT, STEP]


def zero_debts(web, many, seed, most=5):
    """Some debts of total 0, always the same ones."""
    rnd = random.Random(seed)
    told = []
    for _ in range(many):
        debts = Debts.none(web)
        for place in web.places:
            debts = debts.moved(place, rnd.choice(web.places), many=rnd.randint(-most, most))
        told.append(debts)
    return told


def steps_of(web):
    """The debts with 1 at one place, -1 at the least one and 0 elsewhere."""
    return [Debts.at(web, place) - Debts.at(web, web.places[0]) for place in web.places]


class Heights(ErrorCase):
    def test_by_their_own_definition(self):
        for web in WEBS:
            for debts in zero_debts(web, 4, 1) + steps_of(web):
                heights = heights_of(debts)
                self.assertEqual(list(heights), list(web.places))
                self.assertEqual(heights[web.places[0]], (0, 1))
                self.assertEqual(gap_of_heights(web, heights), debts.amounts)
                for height in heights.values():
                    self.assertIs(is_fraction(height), True)

    def test_integers_exactly_for_debts_that_vanish(self):
        for web in WEBS:
            for debts in zero_debts(web, 6, 2, most=1):
                heights = heights_of(debts)
                vanish = are_alike(debts, Debts.none(web))
                self.assertEqual(all(bottom == 1 for _, bottom in heights.values()), vanish)
                gone = debts * order_of(debts)
                plan = {place: top for place, (top, _) in heights_of(gone).items()}
                self.assertIs(is_plan(web, plan), True)
                self.assertEqual(gone.after(plan), Debts.none(web))

    def test_sixty_digits(self):
        for web in WEBS:
            for debts in steps_of(web):
                far = debts * SIXTY
                self.assertEqual(gap_of_heights(web, heights_of(far)), far.amounts)
                for place, (top, bottom) in heights_of(debts).items():
                    self.assertEqual(Fraction(*heights_of(far)[place]), SIXTY * Fraction(top, bottom))


class Orders(ErrorCase):
    def test_by_their_own_definition(self):
        for web in (PAIR, RING, KITE, FOUR, TAIL, LINE):
            nothing = Debts.none(web).amounts
            for debts in zero_debts(web, 3, 3, most=2) + steps_of(web):
                order = 1
                while reduced_by_hand(debts * order, "a") != nothing:
                    order += 1
                self.assertEqual(order_of(debts), order)

    def test_orders_divide_the_number_of_trees(self):
        for web in WEBS:
            for debts in zero_debts(web, 5, 4) + steps_of(web):
                order = order_of(debts)
                self.assertEqual(count_trees(web) % order, 0)
                self.assertIs(are_alike(debts * order, Debts.none(web)), True)
                bottoms = [bottom for _, bottom in heights_of(debts).values()]
                self.assertTrue(all(order % bottom == 0 for bottom in bottoms))
                for less in {order // prime for prime in (2, 3, 5, 7, 11, 13, 17, 19, 61) if order % prime == 0}:
                    self.assertIs(are_alike(debts * less, Debts.none(web)), False)

    def test_alike_debts_have_equal_orders(self):
        for web in WEBS:
            for debts in zero_debts(web, 3, 5):
                plan = {place: at * at - 7 for at, place in enumerate(web.places)}
                self.assertEqual(order_of(debts.after(plan)), order_of(debts))
            self.assertEqual(order_of(Debts.none(web).lent(web.places[1], many=-4)), 1)


class Pairings(ErrorCase):
    def value(self, one, other):
        told = pairing(one, other)
        self.assertIs(is_fraction(told), True)
        self.assertTrue(0 <= told[0] < told[1])
        return Fraction(*told)

    def test_by_their_own_definition(self):
        for web in WEBS:
            told = zero_debts(web, 4, 6) + steps_of(web)[-2:]
            for one in told:
                heights = heights_of(one)
                for other in told:
                    whole = sum(Fraction(*heights[place]) * other[place] for place in web.places)
                    self.assertEqual(self.value(one, other), whole % 1)
                    self.assertEqual(pairing(other, one), pairing(one, other))

    def test_of_sums(self):
        for web in WEBS:
            one, two, three = zero_debts(web, 3, 7)
            self.assertEqual(self.value(one + two, three), (self.value(one, three) + self.value(two, three)) % 1)
            self.assertEqual(self.value(three, one - two), (self.value(three, one) - self.value(three, two)) % 1)
            self.assertEqual(self.value(-one, two), -self.value(one, two) % 1)
            self.assertEqual(self.value(5 * one, two), 5 * self.value(one, two) % 1)

    def test_of_alike_debts(self):
        for web in WEBS:
            one, other = zero_debts(web, 2, 8)
            plan = {place: 3 - at for at, place in enumerate(web.places)}
            self.assertEqual(pairing(one.after(plan), other), pairing(one, other))
            self.assertEqual(pairing(one, other.after(plan)), pairing(one, other))

    def test_debts_vanish_exactly_if_all_pairings_are_0(self):
        for web in SMALL:
            told = list(each_class(web)) + zero_debts(web, 10, 9, most=1)
            for debts in told:
                vanish = are_alike(debts, Debts.none(web))
                for others in (told, steps_of(web)):
                    self.assertEqual(all(pairing(debts, other) == (0, 1) for other in others), vanish)

    def test_sixty_digits(self):
        far = STEP * SIXTY
        self.assertEqual(self.value(far, far), Fraction(5, 8) * SIXTY * SIXTY % 1)


class EachClass(ErrorCase):
    def test_as_many_as_trees_in_the_order_of_reduced_debts(self):
        for web in SMALL:
            told = list(each_class(web))
            self.assertEqual(len(told), count_trees(web))
            self.assertEqual(told, list(each_reduced(web, web.places[0], 0)))
            for one in told:
                self.assertEqual([are_alike(one, other) for other in told].count(True), 1)
        self.assertEqual(len(list(each_class(FULLEST))), 10404)

    def test_webs_with_one_class(self):
        for web in (PAIR, LINE, NINE):
            self.assertEqual(list(each_class(web)), [Debts.none(web)])

    def test_each_debts_are_in_one_class(self):
        for web in (KITE, DUMBBELL):
            for debts in zero_debts(web, 5, 10):
                self.assertEqual([are_alike(debts, one) for one in each_class(web)].count(True), 1)


class Errors(ErrorCase):
    def test_one_debts(self):
        for call in (order_of, heights_of):
            for wrong in ALL_STRANGE + (STEP.amounts, FLAT):
                self.refused(InvalidDebts, call, wrong)
            for total in (1, -1, SIXTY):
                self.refused(InvalidOperation, call, Debts.none(KITE).moved("a", "b") + total * Debts.at(KITE, "c"))

    def test_the_order_of_the_checks_of_two_debts(self):
        more = Debts.at(KITE, "a")
        for wrong in ALL_STRANGE + (STEP.amounts, FLAT):
            self.in_order(pairing, [STEP, STEP], (0, wrong, InvalidDebts), (1, wrong, InvalidDebts))
            self.in_order(pairing, [STEP, STEP], (0, more, InvalidOperation), (1, wrong, InvalidDebts))
            for other in (more, Debts.none(RING), Debts.at(RING, "a")):
                self.in_order(pairing, [STEP, STEP], (0, wrong, InvalidDebts), (1, other, InvalidOperation))
        for other in (more, Debts.none(RING), Debts.at(RING, "a")):
            self.refused(InvalidOperation, pairing, STEP, other)

    def test_wrong_webs(self):
        for wrong in NO_WEBS:
            self.refused(InvalidWeb, each_class, wrong)
            each_class(wrong)  # the error comes with the first result only

    def test_nothing_is_shared(self):
        heights_of(STEP).clear()
        self.assertEqual(heights_of(STEP)["b"], (5, 8))
        one, other = each_class(TAIL), each_class(TAIL)
        self.assertEqual([next(one).lines, next(one).lines, next(other).lines], [(), ("a owes 1", "d has 1"), ()])


if __name__ == "__main__":
    unittest.main()
