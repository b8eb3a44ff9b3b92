"""[4.1]: the class of debts."""

import random
import unittest

from owedround.errors import InvalidDebts, InvalidNumber, InvalidOperation, InvalidPlace, InvalidPlan
from owedround.errors import InvalidWeb, ParseError, UnknownName
from owedround.owe.debts import Debts
from cases import ErrorCase
from oracles import lent_by_hand, sets_of
from samples import ALL_STRANGE, FLAT, FULLEST, KITE, LINE, NO_PLACES, ODD, PAIR, RING, SMALL, TAIL, WEBS

SIXTY = 10 ** 60 - 1
SOME = Debts(KITE, {"a": 2, "b": -1, "c": 0, "d": 0})
NO_AMOUNTS = (
    {},
    {"a": 1, "b": 2, "c": 3},
    {"a": 1, "b": 2, "c": 3, "e": 4},
    {"a": 1, "b": 2, "c": 3, "d": 4, "e": 5},
    {"a": 1, "b": 2, "c": 3, "d": True},
    {"a": 1, "b": 2, "c": 3, "d": None},
    {"a": 1, "b": 2, "c": 3, "d": "4"},
    {"a": 1, "b": 2, "c": 3, "d": (4,)},
    {"a": 1, "b": 2, "c": 3, "d": 10 ** 60},
    {"a": -(10 ** 60), "b": 2, "c": 3, "d": 4},
    {("a",): 1, "b": 2, "c": 3, "d": 4},
    (("a", 1), ("b", 2), ("c", 3), ("d", 4)),
    [1, 2, 3, 4],
    (1, 2, 3, 4),
)
NO_INTEGERS = [value for value in ALL_STRANGE + ("1", (1,), [1], {"many": 1}, 10 ** 60, FLAT)]
NO_WEBS = [value for value in ALL_STRANGE if value is not RING] + [FLAT, SOME]


class Making(ErrorCase):
    def test_from_a_dict_in_any_order(self):
        debts = Debts(KITE, {"d": 0, "c": 0, "b": -1, "a": 2})
        self.assertEqual(debts, SOME)
        self.assertEqual(list(debts.amounts.items()), [("a", 2), ("b", -1), ("c", 0), ("d", 0)])

    def test_no_debts(self):
        for wrong in NO_AMOUNTS + ALL_STRANGE + (SOME, FLAT):
            self.refused(InvalidDebts, Debts, KITE, wrong)

    def test_the_order_of_the_checks(self):
        for wrong in NO_WEBS:
            self.in_order(Debts, [KITE, SOME.amounts], (0, wrong, InvalidWeb), (1, {}, InvalidDebts))

    def test_sixty_digits(self):
        debts = Debts(PAIR, {"a": SIXTY, "b": -SIXTY})
        self.assertEqual(debts.lines, ("a has " + "9" * 60, "b owes " + "9" * 60))
        self.assertEqual(Debts.from_lines(PAIR, *debts.lines), debts)
        self.assertEqual((debts + debts)["a"], 2 * SIXTY)
        self.assertEqual((debts * SIXTY)["b"], -SIXTY * SIXTY)
        self.assertEqual(debts.lent("b", many=SIXTY).amounts, {"a": 2 * SIXTY, "b": -2 * SIXTY})
        self.assertEqual(debts.after({"a": SIXTY, "b": -SIXTY}).amounts, {"a": -SIXTY, "b": SIXTY})
        self.assertEqual((debts + debts).moved("a", "b", many=SIXTY).amounts, {"a": SIXTY, "b": -SIXTY})
        self.assertEqual((debts + debts).renamed({"a": "b", "b": "a"})["a"], -2 * SIXTY)
        self.assertEqual((debts + debts).lent_together(("a",))["a"], 2 * SIXTY - 1)
        self.assertEqual((-(debts + debts))["b"], 2 * SIXTY)
        self.assertEqual((debts + debts - debts), debts)

    def test_none(self):
        for web in WEBS:
            self.assertEqual(Debts.none(web).amounts, {place: 0 for place in web.places})
        for wrong in NO_WEBS:
            self.refused(InvalidWeb, Debts.none, wrong)

    def test_at(self):
        self.assertEqual(Debts.at(KITE, "b", "d", "b").amounts, {"a": 0, "b": 2, "c": 0, "d": 1})
        self.assertEqual(Debts.at(KITE), Debts.none(KITE))
        for wrong in NO_WEBS:
            self.in_order(Debts.at, [KITE, "a", "b"], (0, wrong, InvalidWeb), (1, "zz", UnknownName),
                          (2, "yy", UnknownName))
        for wrong in NO_PLACES:
            self.unknown(wrong, Debts.at, KITE, "a", wrong, "zz")


class Lines(ErrorCase):
    def parse(self, number, *lines):
        self.assertEqual(self.refused(ParseError, Debts.from_lines, KITE, *lines).number, number)

    def test_lines_in_any_order(self):
        told = Debts.from_lines(KITE, "d owes 12", "a has 3")
        self.assertEqual(told.amounts, {"a": 3, "b": 0, "c": 0, "d": -12})
        self.assertEqual(Debts.from_lines(KITE), Debts.none(KITE))

    def test_lines_lead_back(self):
        rnd = random.Random(4)
        for web in WEBS + (ODD,):
            for _ in range(5):
                debts = Debts(web, {place: rnd.choice((0, 1, -1, 10, -1000)) for place in web.places})
                self.assertEqual(Debts.from_lines(web, *debts.lines[::-1]), debts)

    def test_values_that_are_no_lines(self):
        for wrong in (
            "", "a", "a has", "a has ", "a has 0", "a owes 0", "a has 01", "a has -1", "a has +1", "a owes -2",
            "a  has 1", "a has  1", " a has 1", "a has 1 ", "a has 1\n", "a has\t1", "a had 1", "a Has 1", "a has x",
            "a has 1x", "a has 1.0", "a has 1_000", "a has 1 2", "has a 1", "A has 1", "e has 1", "zz owes 1", "a 1",
            "a has \u00b2", "a has \u0663", "a has " + "1" * 61, "a owes 0" + "1" * 59, "a: has 1", "tie a b",
        ):
            self.parse(0, wrong)
            self.parse(1, "b has 1", wrong)

    def test_values_of_other_kinds_are_no_lines(self):
        for wrong in ALL_STRANGE + (["a has 1"], ("a has 1",), SOME, 0, {"a has 1": 1}):
            self.parse(2, "a has 1", "b owes 1", wrong, "nonsense")

    def test_a_place_told_twice(self):
        self.parse(1, "a has 1", "a has 1")
        self.parse(2, "a has 1", "b has 1", "a owes 1", "nonsense")
        self.parse(1, "a has 1", "nonsense", "a has 1")

    def test_wrong_webs_come_first(self):
        for wrong in NO_WEBS:
            self.refused(InvalidWeb, Debts.from_lines, wrong, "nonsense")
            self.refused(InvalidWeb, Debts.from_lines, wrong)


class Properties(unittest.TestCase):
    def test_of_some_debts(self):
        debts = Debts(KITE, {"a": -3, "b": 5, "c": 0, "d": -1})
        self.assertEqual((debts.web, debts.total, debts.owing, debts.is_free), (KITE, 1, ("a", "d"), False))
        self.assertEqual(debts.lines, ("a owes 3", "b has 5", "d owes 1"))
        self.assertEqual([debts[place] for place in "abcd"], [-3, 5, 0, -1])
        self.assertIs(Debts.none(KITE).is_free, True)
        self.assertEqual((Debts.none(KITE).lines, Debts.none(KITE).owing), ((), ()))

    def test_of_many_debts(self):
        rnd = random.Random(5)
        for web in WEBS:
            for _ in range(10):
                amounts = {place: rnd.randint(-2, 3) for place in web.places}
                debts = Debts(web, amounts)
                self.assertEqual((debts.amounts, debts.total), (amounts, sum(amounts.values())))
                self.assertEqual(debts.owing, tuple(place for place in web.places if amounts[place] < 0))
                self.assertIs(debts.is_free, min(amounts.values()) >= 0)
                self.assertEqual(len(debts.lines), sum(amount != 0 for amount in amounts.values()))

    def test_properties_cannot_be_set(self):
        for name in ("web", "amounts", "total", "owing", "is_free", "lines"):
            with self.assertRaises(AttributeError):
                setattr(SOME, name, None)


class Lending(ErrorCase):
    def test_one_place_lends(self):
        rnd = random.Random(6)
        for web in SMALL:
            for place in web.places:
                debts = Debts(web, {other: rnd.randint(-5, 5) for other in web.places})
                once = lent_by_hand(web, debts.amounts, [place])
                self.assertEqual(debts.lent(place).amounts, once)
                self.assertEqual(debts.lent(place, many=3).amounts, lent_by_hand(web, debts.amounts, [place] * 3))
                self.assertEqual(debts.lent(place, many=0), debts)
                self.assertEqual(debts.lent(place).lent(place, many=-1), debts)
                self.assertEqual(debts.lent(place, many=-2).lent(place, many=2), debts)
                self.assertEqual(debts.lent(place, many=999).total, debts.total)

    def test_sets_lend_together(self):
        for web in SMALL:
            debts = Debts(web, {place: at for at, place in enumerate(web.places)})
            for places in sets_of(web.places):
                self.assertEqual(debts.lent_together(places).amounts, lent_by_hand(web, debts.amounts, places))
            self.assertEqual(debts.lent_together(()), debts)
            self.assertEqual(debts.lent_together(web.places), debts)

    def test_moved(self):
        self.assertEqual(SOME.moved("a", "d").amounts, {"a": 1, "b": -1, "c": 0, "d": 1})
        self.assertEqual(SOME.moved("d", "a", many=5).amounts, {"a": 7, "b": -1, "c": 0, "d": -5})
        self.assertEqual(SOME.moved("a", "d", many=-2).amounts, {"a": 4, "b": -1, "c": 0, "d": -2})
        self.assertEqual(SOME.moved("a", "a", many=9), SOME)
        self.assertEqual(SOME.moved("a", "b", many=0), SOME)

    def test_plans(self):
        rnd = random.Random(7)
        for web in WEBS:
            debts = Debts(web, {place: rnd.randint(-9, 9) for place in web.places})
            plan = {place: rnd.randint(-4, 4) for place in web.places[::-1]}
            behind = debts
            for place in web.places:
                behind = behind.lent(place, many=plan[place])
            self.assertEqual(debts.after(plan), behind)
            self.assertEqual(behind.after({place: -many for place, many in plan.items()}), debts)
            self.assertEqual(debts.after({place: many + 5 for place, many in plan.items()}), behind)

    def test_renamed(self):
        told = SOME.renamed({"a": "z", "b": "y", "c": "x", "d": "aa"})
        self.assertEqual(list(told.amounts.items()), [("aa", 0), ("x", 0), ("y", -1), ("z", 2)])
        self.assertEqual(told.web, KITE.renamed({"a": "z", "b": "y", "c": "x", "d": "aa"}))
        self.assertEqual(told.renamed({"z": "a", "y": "b", "x": "c", "aa": "d"}), SOME)

    def test_wrong_places_and_numbers(self):
        for wrong in NO_PLACES:
            self.unknown(wrong, SOME.lent, wrong, many=None)
            self.unknown(wrong, SOME.moved, wrong, "zz", many=None)
            self.unknown(wrong, SOME.moved, "a", wrong, many=None)
            self.unknown(wrong, SOME.__getitem__, wrong)
        for wrong in NO_INTEGERS:
            self.in_order(SOME.lent, (["a"], {"many": 1}), (0, "zz", UnknownName), ("many", wrong, InvalidNumber))
            self.in_order(SOME.moved, (["a", "b"], {"many": 1}), (0, "zz", UnknownName), (1, "yy", UnknownName),
                          ("many", wrong, InvalidNumber))

    def test_many_is_passed_by_keyword(self):
        for call, values in ((SOME.lent, ("a", 1)), (SOME.moved, ("a", "b", 1))):
            with self.assertRaises(TypeError):
                call(*values)

    def test_wrong_sets(self):
        for wrong in [value for value in ALL_STRANGE if value not in ((), ("a",))] + [
            ("b", "a"), ("a", "a"), ("a", "z"), ["a"], "a", "ab", {"a": 1}, ("a", 1), SOME,
        ]:
            self.refused(InvalidPlace, SOME.lent_together, wrong)

    def test_wrong_plans_and_names(self):
        for wrong in NO_AMOUNTS + ALL_STRANGE + (SOME, FLAT):
            self.refused(InvalidPlan, SOME.after, wrong)
        for wrong in ALL_STRANGE + ({"a": "x", "b": "y", "c": "z", "d": "x"}, {"a": "x"}, SOME.amounts):
            self.refused(InvalidOperation, SOME.renamed, wrong)


class Operators(ErrorCase):
    def test_sums_and_differences(self):
        rnd = random.Random(8)
        for web in WEBS:
            one, other = [Debts(web, {place: rnd.randint(-9, 9) for place in web.places}) for _ in range(2)]
            for place in web.places:
                self.assertEqual((one + other)[place], one[place] + other[place])
                self.assertEqual((one - other)[place], one[place] - other[place])
                self.assertEqual((-one)[place], -one[place])
                self.assertEqual((one * 3)[place], 3 * one[place])
                self.assertEqual((-3 * one)[place], -3 * one[place])
            self.assertEqual(one - one, Debts.none(web))
            self.assertEqual(0 * one, Debts.none(web))

    def test_sums_with_other_values(self):
        for other in ALL_STRANGE + (0, 1, Debts.none(RING), Debts.none(TAIL), SOME.amounts, FLAT, "a has 1"):
            self.refused(InvalidOperation, lambda: SOME + other)
            self.refused(InvalidOperation, lambda: SOME - other)

    def test_multiples_by_other_values(self):
        for other in NO_INTEGERS + [SOME, 10 ** 60, SOME.amounts, "ab"]:
            self.refused(InvalidOperation, lambda: SOME * other)
            self.refused(InvalidOperation, lambda: other * SOME)

    def test_contains_the_lines(self):
        for line in SOME.lines:
            self.assertIs(line in SOME, True)
        for value in ALL_STRANGE + ("c has 0", "a has 3", "a", ("a", 2), SOME, "b has 1"):
            self.assertIs(value in SOME, False, value)

    def test_len_and_iteration(self):
        for web in WEBS + (ODD,):
            debts = Debts.at(web, web.places[-1])
            self.assertEqual(len(debts), len(web.places))
            self.assertEqual(list(debts), list(debts.amounts.items()))
            self.assertEqual([place for place, _ in debts], list(web.places))
            self.assertEqual(dict(debts), debts.amounts)
        one, other = iter(SOME), iter(SOME)
        self.assertEqual([next(one), next(one), next(other)], [("a", 2), ("b", -1), ("a", 2)])

    def test_equality(self):
        self.assertIs(Debts(KITE, SOME.amounts) == SOME, True)
        self.assertIs(Debts(KITE, SOME.amounts) != SOME, False)
        self.assertNotEqual(SOME, SOME.moved("a", "b"))
        square = LINE.with_tie("a", "d")
        self.assertNotEqual(Debts.none(KITE), Debts.none(square))
        for value in ALL_STRANGE + (SOME.amounts, SOME.lines, KITE, FLAT, 0):
            self.assertIs(SOME == value, False)
            self.assertIs(SOME != value, True)

    def test_str(self):
        debts = Debts.from_lines(RING, "a has 4", "b owes 2")
        self.assertEqual(str(debts), "debts of 3 places, total 2, 1 owing")
        self.assertEqual(str(-Debts.at(FULLEST, "a", "b")), "debts of 9 places, total -2, 2 owing")


class State(unittest.TestCase):
    def test_nothing_is_shared(self):
        amounts = {"d": 0, "c": 0, "b": -1, "a": 2}
        debts = Debts(KITE, amounts)
        amounts["a"] = 7
        amounts.clear()
        debts.amounts["b"] = 9
        debts.amounts.clear()
        self.assertEqual(debts, SOME)

    def test_no_call_changes_debts_or_what_is_passed(self):
        before = dict(SOME.amounts)
        plan = {"d": 1, "c": 2, "b": 3, "a": 4}
        names = {"d": "a", "c": "b", "b": "c", "a": "d"}
        SOME.lent("a")
        SOME.lent_together(("a", "b"))
        SOME.moved("a", "b", many=4)
        SOME.after(plan)
        SOME.renamed(names)
        (SOME + SOME, SOME - SOME, -SOME, SOME * 2, 2 * SOME)
        debts = SOME
        debts += SOME
        self.assertEqual(SOME.amounts, before)
        self.assertEqual((list(plan), list(names)), (["d", "c", "b", "a"], ["d", "c", "b", "a"]))

    def test_results_are_of_their_own(self):
        one = SOME.lent("a", many=0)
        one.amounts["a"] = 99
        self.assertEqual((one, SOME["a"]), (SOME, 2))


if __name__ == "__main__":
    unittest.main()
