"""[5.1] to [5.5]: reduced debts, lending sets and burning orders."""

import random
import unittest
from itertools import permutations, product

from owedround.errors import InvalidDebts, InvalidNumber, InvalidOperation, InvalidWeb, UnknownName
from owedround.owe.burning import burning_order, can_be_free, each_reduced, is_burning_order, is_reduced
from owedround.owe.burning import lending_set, plan_to_reduced, reduced
from owedround.owe.debts import Debts, are_alike, is_plan
from cases import ErrorCase
from oracles import is_reduced_by_sets, lent_by_hand, reduced_by_hand, sets_of, small_debts, trees_by_trial
from samples import ALL_STRANGE, DUMBBELL, FLAT, FOUR, FULLEST, KITE, LINE, NINE, NO_PLACES, PAIR, RING
from samples import SMALL, TAIL, WEBS

SIXTY = 10 ** 60 - 1
HAVE = Debts.from_lines(KITE, "a owes 1", "b has 2", "c has 2")
NO_WEBS = [value for value in ALL_STRANGE if value is not RING] + [FLAT, HAVE]


def some_debts(web, many, seed, most=6):
    """Some debts of a web, always the same ones."""
    rnd = random.Random(seed)
    return [Debts(web, {place: rnd.randint(-most, most) for place in web.places}) for _ in range(many)]


class Reduced(ErrorCase):
    def test_is_reduced_by_all_sets(self):
        for web in (PAIR, RING, KITE, LINE):
            for amounts in small_debts(web, -1, 2):
                debts = Debts(web, amounts)
                for place in web.places:
                    self.assertIs(is_reduced(debts, place), is_reduced_by_sets(debts, place))

    def test_what_the_place_itself_has_does_not_matter(self):
        for most in (-SIXTY, -5, 0, 5, SIXTY):
            debts = Debts(KITE, {"a": most, "b": 1, "c": 0, "d": 1})
            self.assertIs(is_reduced(debts, "a"), True)
            self.assertIs(is_reduced(debts, "b"), most == 0)

    def test_reduced_by_a_second_reading(self):
        for web in (PAIR, RING, KITE, FOUR, TAIL, LINE):
            for debts in some_debts(web, 4, 10):
                for place in web.places:
                    self.assertEqual(reduced(debts, place).amounts, reduced_by_hand(debts, place))

    def test_reduced_debts_of_all_webs(self):
        for web in WEBS:
            for debts in some_debts(web, 3, 11, most=1000):
                for place in web.places:
                    told = reduced(debts, place)
                    self.assertIs(is_reduced(told, place), True)
                    self.assertIs(are_alike(debts, told), True)
                    self.assertEqual(reduced(told, place), told)
                    self.assertEqual(is_reduced(debts, place), debts == told)

    def test_plan_to_reduced(self):
        for web in WEBS:
            for debts in some_debts(web, 3, 12, most=30):
                for place in web.places:
                    plan = plan_to_reduced(debts, place)
                    self.assertIs(is_plan(web, plan), True)
                    self.assertEqual((plan[place], list(plan)), (0, list(web.places)))
                    self.assertEqual(debts.after(plan), reduced(debts, place))

    def test_plans_of_reduced_debts_do_nothing(self):
        for debts in each_reduced(FOUR, "b", 1):
            self.assertEqual(plan_to_reduced(debts, "b"), {place: 0 for place in "abcd"})

    def test_numbers_of_sixty_digits(self):
        for web in WEBS:
            for sign in (1, -1):
                amounts = {place: sign * (-1) ** at * (SIXTY - at) for at, place in enumerate(web.places)}
                debts = Debts(web, amounts)
                for place in web.places:
                    told, plan = reduced(debts, place), plan_to_reduced(debts, place)
                    self.assertIs(is_reduced(told, place), True)
                    self.assertIs(are_alike(told, debts), True)
                    # The integers of a plan can be longer than those of the debts, and are none then.
                    if is_plan(web, plan):
                        self.assertEqual(debts.after(plan), told)
                self.assertIs(can_be_free(debts), told[place] >= 0)

    def test_wrong_arguments(self):
        for call in (reduced, is_reduced, plan_to_reduced, lending_set, burning_order):
            for wrong in ALL_STRANGE + (HAVE.amounts, FLAT):
                self.in_order(call, [HAVE, "a"], (0, wrong, InvalidDebts), (1, "zz", UnknownName))
            for wrong in NO_PLACES:
                self.unknown(wrong, call, HAVE, wrong)
        for wrong in ALL_STRANGE + (HAVE.amounts, FLAT):
            self.refused(InvalidDebts, can_be_free, wrong)


class Free(unittest.TestCase):
    def test_by_looking_for_free_debts(self):
        for web in (PAIR, RING, KITE, LINE):
            for debts in some_debts(web, 12, 13, most=2):
                free = [one for one in small_debts(web, 0, max(debts.total, 0)) if sum(one.values()) == debts.total]
                expected = any(are_alike(debts, Debts(web, one)) for one in free)
                self.assertIs(can_be_free(debts), expected)
                for place in web.places:
                    self.assertIs(reduced(debts, place)[place] >= 0, expected)

    def test_both_sides_of_the_border(self):
        for web in WEBS:
            least = web.places[0]
            for debts in some_debts(web, 8, 14):
                missing = -reduced(debts, least)[least]
                for more, expected in ((missing - 1, False), (missing, True), (missing + 1, True)):
                    self.assertIs(can_be_free(debts + more * Debts.at(web, least)), expected)
                # With the spare number as their total all debts can be free.
                full = debts + (web.spare - debts.total) * Debts.at(web, least)
                self.assertIs(can_be_free(full), True)

    def test_totals_below_0_are_never_free(self):
        for web in WEBS:
            self.assertIs(can_be_free(Debts.at(web, "a") - 2 * Debts.at(web, web.places[-1])), False)
            self.assertIs(can_be_free(Debts.none(web)), True)


class LendingSets(ErrorCase):
    def test_by_all_sets(self):
        for web in (PAIR, RING, KITE, LINE):
            for place in web.places:
                others = [other for other in web.places if other != place]
                for amounts in small_debts(web, 0, 2):
                    debts = Debts(web, dict(amounts, **{place: -amounts[place]}))
                    fitting = set()
                    for lenders in sets_of(others):
                        left = lent_by_hand(web, debts.amounts, lenders)
                        if all(left[other] >= 0 for other in others):
                            fitting |= set(lenders)
                    self.assertEqual(lending_set(debts, place), tuple(sorted(fitting)))

    def test_empty_exactly_for_reduced_debts(self):
        for web in WEBS:
            for debts in some_debts(web, 6, 15, most=3):
                free = Debts(web, {place: abs(amount) for place, amount in debts})
                for place in web.places:
                    self.assertEqual(lending_set(free, place) == (), is_reduced(free, place))
                    self.assertEqual(lending_set(reduced(debts, place), place), ())

    def test_another_place_owes(self):
        for place in "bcd":
            debts = Debts.from_lines(KITE, place + " owes 1")
            self.assertEqual(lending_set(debts, place), ())
            self.refused(InvalidOperation, lending_set, debts, "a")
            self.unknown("zz", lending_set, debts, "zz")


class BurningOrders(ErrorCase):
    def judge(self, debts, place, value):
        """[5.4] word for word."""
        if sorted(value) != list(debts.web.places) or value[0] != place:
            return False
        for at, other in enumerate(value):
            near = [one for one in value[:at] if debts.web.is_tied(one, other)]
            if other != place and not 0 <= debts[other] < len(near):
                return False
        return True

    def test_all_orders(self):
        for web in (PAIR, RING, KITE, LINE):
            for amounts in small_debts(web, -1, 2):
                debts = Debts(web, amounts)
                for place in web.places:
                    fitting = []
                    for value in permutations(web.places):
                        expected = self.judge(debts, place, value)
                        self.assertIs(is_burning_order(debts, place, value), expected)
                        fitting += [value] if expected else []
                    told = burning_order(debts, place)
                    self.assertTrue(told in fitting if fitting else told is None)
                    self.assertEqual(bool(fitting), is_reduced(debts, place))

    def test_orders_of_all_webs(self):
        for web in WEBS:
            for debts in some_debts(web, 4, 16):
                for place in web.places:
                    told = burning_order(reduced(debts, place), place)
                    self.assertIs(type(told), tuple)
                    self.assertIs(is_burning_order(reduced(debts, place), place, told), True)
                    self.assertTrue(self.judge(reduced(debts, place), place, told))

    def test_values_that_are_no_orders(self):
        lent = Debts.from_lines(KITE, "b has 1", "d owes 1")
        self.assertIs(is_burning_order(lent, "d", ("d", "c", "a", "b")), True)
        for value in ALL_STRANGE + (
            ["d", "c", "a", "b"], "dcab", ("d", "c", "a"), ("d", "c", "a", "b", "b"), ("d", "c", "a", "a"),
            ("c", "d", "a", "b"), ("d", "c", "a", ["b"]), ("d", "c", "a", None), ("d", "c", "a", "e"), lent, FLAT,
        ):
            self.assertIs(is_burning_order(lent, "d", value), False, value)

    def test_no_order_if_another_place_owes(self):
        debts = Debts.from_lines(KITE, "b owes 1")
        self.assertIsNone(burning_order(debts, "a"))
        for value in permutations("abcd"):
            self.assertIs(is_burning_order(debts, "a", value), False)

    def test_the_order_of_the_checks(self):
        for wrong in ALL_STRANGE + (HAVE.amounts,):
            self.in_order(is_burning_order, [HAVE, "a", None], (0, wrong, InvalidDebts), (1, "zz", UnknownName))
        for wrong in NO_PLACES:
            self.unknown(wrong, is_burning_order, HAVE, wrong, None)


class AllReduced(ErrorCase):
    def test_by_a_second_reading(self):
        for web in (PAIR, RING, KITE, FOUR, LINE):
            most = max(len(web.neighbours(place)) for place in web.places)
            for place in web.places:
                others = [other for other in web.places if other != place]
                for total in (0, -3, 2):
                    expected = []
                    for row in product(range(most), repeat=len(others)):
                        amounts = dict(zip(others, row))
                        amounts[place] = total - sum(row)
                        if is_reduced_by_sets(Debts(web, amounts), place):
                            expected.append(Debts(web, amounts))
                    self.assertEqual(list(each_reduced(web, place, total)), expected)

    def test_as_many_as_joining_trees_and_ascending(self):
        for web in SMALL:
            many = len(trees_by_trial(web))
            for place in web.places:
                for total in (-1000, -1, 0, 7):
                    told = list(each_reduced(web, place, total))
                    rows = [[debts[other] for other in web.places if other != place] for debts in told]
                    self.assertEqual(len(told), many)
                    self.assertEqual(rows, sorted(rows))
                    self.assertEqual(len({tuple(row) for row in rows}), many)
                    for debts in told:
                        self.assertEqual((debts.web, debts.total), (web, total))
                        self.assertIs(is_reduced(debts, place), True)

    def test_unlike_one_another(self):
        for web in (KITE, DUMBBELL):
            told = list(each_reduced(web, "c", 1))
            for one in told:
                self.assertEqual([are_alike(one, other) for other in told].count(True), 1)

    def test_the_greatest_web(self):
        self.assertEqual(len(list(each_reduced(FULLEST, "e", -2))), 10404)
        self.assertEqual([debts.amounts for debts in each_reduced(NINE, "i", 4)],
                         [dict({place: 0 for place in "abcdefgh"}, i=4)])

    def test_totals_of_sixty_digits(self):
        for total in (SIXTY, -SIXTY):
            told = list(each_reduced(KITE, "a", total))
            self.assertEqual([debts.total for debts in told], [total] * 8)
        self.assertEqual(told[-1]["a"], -SIXTY - 2)

    def test_the_order_of_the_checks(self):
        for wrong in NO_WEBS:
            self.in_order(each_reduced, [KITE, "a", 0], (0, wrong, InvalidWeb), (1, "zz", UnknownName),
                          (2, None, InvalidNumber))
        for wrong in NO_PLACES:
            self.unknown(wrong, each_reduced, KITE, wrong, None)
        for wrong in ALL_STRANGE + ("1", (1,), 10 ** 60, HAVE):
            self.assertIs(self.refused(InvalidNumber, each_reduced, KITE, "a", wrong).value, wrong)

    def test_the_error_comes_with_the_first_result(self):
        told = each_reduced(None, None, None)
        with self.assertRaises(InvalidWeb):
            next(told)

    def test_one_by_one(self):
        one, other = each_reduced(FULLEST, "a", 0), each_reduced(FULLEST, "a", 0)
        self.assertEqual([next(one).lines, next(one).lines, next(other).lines], [(), ("a owes 1", "i has 1"), ()])


if __name__ == "__main__":
    unittest.main()
