"""[4.2] and [4.3]: plans, and alike debts."""

import random
import unittest

from owedround.errors import InvalidDebts, InvalidOperation, InvalidPlan, InvalidWeb
from owedround.owe.debts import Debts, are_alike, is_plan, joined_plans, plain_plan, plan_between
from cases import ErrorCase
from oracles import reduced_by_hand, small_debts
from samples import ALL_STRANGE, FLAT, KITE, PAIR, RING, SMALL, TAIL, WEBS
from test_debts import NO_AMOUNTS, NO_WEBS, SOME

SIXTY = 10 ** 60 - 1
PLAN = {"a": 3, "b": -2, "c": 0, "d": 7}


class Plans(ErrorCase):
    def test_is_plan(self):
        for plan in (PLAN, dict(list(PLAN.items())[::-1]), {"a": SIXTY, "b": -SIXTY, "c": 0, "d": 0}):
            self.assertIs(is_plan(KITE, plan), True)
        for value in NO_AMOUNTS + ALL_STRANGE + (SOME, FLAT):
            self.assertIs(is_plan(KITE, value), False)
        self.assertIs(is_plan(KITE, dict(PLAN, a=True)), False)
        for wrong in NO_WEBS:
            self.refused(InvalidWeb, is_plan, wrong, PLAN)

    def test_plain_plan(self):
        self.assertEqual(plain_plan(KITE, PLAN), {"a": 5, "b": 0, "c": 2, "d": 9})
        self.assertEqual(plain_plan(KITE, {place: 8 for place in "abcd"}), {place: 0 for place in "abcd"})
        turned = plain_plan(KITE, dict(list(PLAN.items())[::-1]))
        self.assertEqual(list(turned), ["a", "b", "c", "d"])
        self.assertEqual(plain_plan(PAIR, {"a": SIXTY, "b": -SIXTY}), {"a": 2 * SIXTY, "b": 0})
        self.assertEqual(plain_plan(KITE, plain_plan(KITE, PLAN)), plain_plan(KITE, PLAN))

    def test_joined_plans(self):
        told = joined_plans(KITE, PLAN, {"d": 1, "c": 1, "b": 1, "a": -3}, PLAN)
        self.assertEqual(list(told.items()), [("a", 3), ("b", -3), ("c", 1), ("d", 15)])
        self.assertEqual(joined_plans(KITE, PLAN), PLAN)
        self.assertEqual(joined_plans(PAIR, *[{"a": SIXTY, "b": 1}] * 3), {"a": 3 * SIXTY, "b": 3})
        for web in WEBS:
            self.assertEqual(joined_plans(web), {place: 0 for place in web.places})

    def test_joined_plans_lead_as_both_do(self):
        other = {"a": 1, "b": 1, "c": -4, "d": 0}
        self.assertEqual(SOME.after(PLAN).after(other), SOME.after(joined_plans(KITE, PLAN, other)))

    def test_wrong_webs_and_plans(self):
        for wrong in NO_AMOUNTS + ALL_STRANGE + (SOME,):
            self.in_order(plain_plan, [KITE, PLAN], (0, None, InvalidWeb), (1, wrong, InvalidPlan))
            self.in_order(joined_plans, [KITE, PLAN, PLAN], (0, None, InvalidWeb), (1, wrong, InvalidPlan),
                          (2, wrong, InvalidPlan))
        for wrong in NO_WEBS:
            self.refused(InvalidWeb, plain_plan, wrong, PLAN)
            self.refused(InvalidWeb, joined_plans, wrong)
            self.refused(InvalidWeb, joined_plans, wrong, None)

    def test_results_are_of_their_own(self):
        plan = dict(PLAN)
        for told in (plain_plan(KITE, plan), joined_plans(KITE, plan)):
            told.clear()
        self.assertEqual(plan, PLAN)


class Alike(ErrorCase):
    def judge(self, one, other, alike):
        self.assertIs(are_alike(one, other), alike)
        plan = plan_between(one, other)
        if alike:
            self.assertIs(is_plan(one.web, plan), True)
            self.assertEqual(min(plan.values()), 0)
            self.assertEqual(list(plan), sorted(plan))
            self.assertEqual(one.after(plan), other)
        else:
            self.assertIsNone(plan)

    def test_all_pairs_of_small_debts(self):
        for web in (PAIR, RING):
            every = [Debts(web, amounts) for amounts in small_debts(web, -2, 2)]
            classes = [(one.total, reduced_by_hand(one, "a")) for one in every]
            for one, first in zip(every, classes):
                for other, second in zip(every, classes):
                    self.judge(one, other, first == second)

    def test_debts_of_equal_totals(self):
        for web in (KITE, TAIL):
            told = [Debts.at(web, a) - Debts.at(web, b) for a in web.places for b in web.places]
            classes = [reduced_by_hand(one, "a") for one in told]
            for one, first in zip(told, classes):
                for other, second in zip(told, classes):
                    self.judge(one, other, first == second)

    def test_plans_there_and_back(self):
        rnd = random.Random(9)
        for web in WEBS:
            for _ in range(5):
                one = Debts(web, {place: rnd.randint(-9, 9) for place in web.places})
                plan = {place: rnd.randint(-9, 9) for place in web.places}
                self.judge(one, one.after(plan), True)
                self.assertEqual(plan_between(one, one.after(plan)), plain_plan(web, plan))
                back = {place: -many for place, many in plan.items()}
                self.assertEqual(plan_between(one.after(plan), one), plain_plan(web, back))
                self.assertEqual(plan_between(one, one), {place: 0 for place in web.places})

    def test_unlike_debts(self):
        for web in SMALL:
            one = Debts.none(web)
            self.judge(one, Debts.at(web, "a"), False)
            for tie in web.ties:
                # Along a tie that is on no ring all can be lent back and forth, and only there.
                self.judge(one, Debts.at(web, tie[0]) - Debts.at(web, tie[1]), tie in web.bridges)

    def test_sixty_digits(self):
        for web in WEBS:
            plan = {place: (-7) ** at * 10 ** 57 for at, place in enumerate(web.places)}
            plan[web.places[0]] = 0
            one = Debts.none(web)
            other = one
            for place, many in plan.items():
                other = other.lent(place, many=many % SIXTY)
            self.judge(one, other, True)
            self.judge(one + Debts.at(web, "a"), other + Debts.at(web, "b"), ("a", "b") in web.bridges)

    def test_the_order_of_the_checks(self):
        for call in (are_alike, plan_between):
            for wrong in ALL_STRANGE + (SOME.amounts, FLAT):
                self.in_order(call, [SOME, SOME], (0, wrong, InvalidDebts), (1, wrong, InvalidDebts))
            self.in_order(call, [SOME, SOME], (1, Debts.none(RING), InvalidOperation))
            self.refused(InvalidDebts, call, None, Debts.none(RING))
            self.refused(InvalidOperation, call, Debts.none(TAIL), Debts.none(KITE))
            same = Debts(KITE.renamed({place: place for place in "abcd"}), SOME.amounts)
            self.assertTrue(call(SOME, same))


if __name__ == "__main__":
    unittest.main()
