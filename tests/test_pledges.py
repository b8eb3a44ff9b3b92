"""[17.3]: the pledges of benches."""

import unittest

from owedround.errors import InvalidOperation, Refused, TooMany, UnknownName
from owedround.owe.debts import Debts
from owedround.use.bench import Bench, is_pledge
from cases import ErrorCase
from samples import ALL_STRANGE, CROSS, FLAT, KITE, TWIST

SIXTY = 10 ** 60 - 1
TREE = (("a", "b"), ("b", "c"), ("b", "d"))
DEBTS = Debts.from_lines(KITE, "b has 2", "d has 1")
GOOD = (
    ("drawing",), ("free",), ("total", 3), ("total", 0), ("total", -SIXTY), ("least", "b", 2), ("least", "zz", SIXTY),
    ("most", "d", 1), ("most", "abcdefgh", -3), ("home", "a"), ("home", "home"), ("joined", "a", "b"),
    ("joined", "b", "a"), ("joined", "x", "y"),
)
BAD = (
    (), ("drawing", 1), ("drawing", None), "drawing", ["drawing"], ("Drawing",), ("free", ()), ("total",),
    ("total", "3"), ("total", True), ("total", None), ("total", 10 ** 60), ("total", 3, 3), ("total", (3,)),
    ("least", "b"), ("least", "b", True), ("least", "B", 2), ("least", 2, "b"), ("least", "b", 10 ** 60),
    ("least", None, 2), ("least", "b", 2, 2), ("most", "d"), ("most", "d", False), ("most", ["d"], 1),
    ("most", "d", "1"), ("home",), ("home", "A"), ("home", None), ("home", "a", "b"), ("home", ""),
    ("home", "abcdefghi"), ("joined", "a", "a"), ("joined", "a"), ("joined", ("a", "b")), ("joined", "a", 1),
    ("joined", "a", "b", "c"), ("joined", None, "b"), ("joined", ["a"], ["b"]), (("drawing",),), ("",), (None,),
    (["drawing"],), ({"free": 1},), ("no", "a", 1), ("no", "a", "b"), ("least", "b", "c"), FLAT,
    (FLAT,), (KITE, "a"), ("least", FLAT, 1), {"drawing": ()}, (1, 2, 3), (True,),
)


def made():
    return Bench(FLAT, "a", DEBTS, TREE)


class Judged(ErrorCase):
    def test_pledges(self):
        for value in GOOD:
            self.assertIs(is_pledge(value), True, value)
        for value in BAD + ALL_STRANGE:
            self.assertIs(is_pledge(value), False, value)


class Demands(ErrorCase):
    def test_demand_and_waive(self):
        bench = made()
        held = [("drawing",), ("free",), ("total", 3), ("least", "b", 2), ("most", "d", 1), ("home", "a"),
                ("joined", "a", "b"), ("joined", "b", "a"), ("least", "c", -SIXTY), ("most", "a", SIXTY)]
        for k, pledge in enumerate(held):
            self.assertEqual(bench.demand(pledge), ((), ()))
            self.assertEqual((bench.pledges, len(bench), bench.changes), (tuple(held[:k + 1]), k + 1, k + 1))
        for pledge in held:
            self.refused(InvalidOperation, bench.demand, pledge)
        # Ten pledges and one more, whether it would hold or not.
        self.too_many(10, bench.demand, ("total", 4))
        self.too_many(10, bench.demand, ("least", "a", 0))
        self.refused(InvalidOperation, bench.demand, ("total", True))
        self.assertEqual(bench.waive(("total", 3)), ((), ()))
        self.assertEqual(bench.pledges, tuple(held[:2] + held[3:]))
        bench.demand(("total", 3))
        self.assertEqual(bench.pledges, tuple(held[:2] + held[3:] + held[2:3]))
        bench.undo()
        self.assertEqual(len(bench), 9)
        bench.undo()
        self.assertEqual(bench.pledges, tuple(held))
        self.assertEqual(bench.undo(many=10), ((), ()))
        self.assertEqual(bench.pledges, ())

    def test_what_is_no_pledge_or_not_there(self):
        bench = made()
        bench.demand(("total", 3))
        bench.demand(("least", "a", 0))
        bench.demand(("most", "a", 1))
        for value in BAD + ALL_STRANGE:
            self.refused(InvalidOperation, bench.demand, value)
            self.refused(InvalidOperation, bench.waive, value)
        for value in (("total", 4), ("drawing",), ("least", "a", False), ("most", "a", True), ["total", 3]):
            self.refused(InvalidOperation, bench.waive, value)
            self.assertIs(value in bench, False)
        self.assertEqual((len(bench), bench.changes), (3, 3))

    def test_pledges_that_do_not_hold(self):
        bench = made()
        for pledge in (
            ("total", 2), ("total", -3), ("least", "b", 3), ("most", "b", 1), ("least", "zz", -9), ("most", "zz", 9),
            ("home", "b"), ("home", "zz"), ("joined", "a", "c"), ("joined", "c", "d"), ("joined", "a", "zz"),
            ("joined", "x", "y"), ("joined", "a", "d"),
        ):
            self.assertEqual(self.refused(Refused, bench.demand, pledge).pledge, pledge)
        self.assertEqual((bench.pledges, bench.changes), ((), 0))
        curled = Bench(TWIST, "a", DEBTS - 2 * Debts.at(KITE, "d"), TREE)
        for pledge in (("drawing",), ("free",)):
            self.assertEqual(self.refused(Refused, curled.demand, pledge).pledge, pledge)


class Refusals(ErrorCase):
    def check(self, pledge, *calls, bench=None):
        """Each call breaks the pledge: nothing is changed then."""
        for call in calls:
            one = (bench or made()).twin()
            one.demand(pledge)
            one.lend("c", many=0)
            one.undo()
            before = one.twin()
            self.assertEqual(self.refused(Refused, call, one).pledge, pledge)
            self.assertEqual((one, one.changes), (before, before.changes))
            one.redo()
            one.undo()
            one.waive(pledge)
            call(one)

    def test_each_kind(self):
        self.check(("drawing",), lambda one: one.redraw(TWIST.rounds), lambda one: one.tie("a", "c", "d", "c"))
        self.check(("free",), lambda one: one.lend("a"), lambda one: one.give("a", many=-1), lambda one: one.walk("c"))
        self.check(("total", 3), lambda one: one.give("d"), lambda one: one.give("a", many=-SIXTY))
        self.check(("least", "b", 2), lambda one: one.lend("b"), lambda one: one.give("b", many=-1),
                   lambda one: one.walk("b"), lambda one: one.settle())
        self.check(("most", "b", 2), lambda one: one.lend("a"), lambda one: one.give("b", many=1))
        self.check(("home", "a"), lambda one: one.move("b"))
        for pledge in (("joined", "b", "c"), ("joined", "c", "b")):
            self.check(pledge, lambda one: one.walk("c"), lambda one: one.walk("d"))
        for pledge in (("joined", "a", "b"), ("joined", "b", "a")):
            self.check(pledge, lambda one: one.walk("b"), lambda one: one.settle())

    def test_what_keeps_pledges(self):
        bench = made()
        for pledge in (("drawing",), ("total", 3), ("home", "a"), ("joined", "a", "b")):
            bench.demand(pledge)
        bench.lend("a")
        bench.lend("b", many=SIXTY)
        bench.tie("a", "b", "d", "c")
        bench.strike("d", "a")
        bench.redraw(FLAT.mirror.rounds)
        bench.move("a")
        self.assertEqual(bench.changes, 10)

    def test_the_first_pledge_in_the_order_of_demands(self):
        pledges = [("home", "a"), ("most", "c", 5), ("total", 3), ("least", "c", -1), ("free",)]
        for k in range(len(pledges)):
            row = pledges[k:] + pledges[:k]
            bench = made()
            for pledge in row:
                bench.demand(pledge)
            first = [pledge for pledge in row if pledge in (("total", 3), ("least", "c", -1), ("free",))][0]
            self.assertEqual(self.refused(Refused, bench.give, "c", many=-2).pledge, first)
            first = [pledge for pledge in row if pledge in (("most", "c", 5), ("total", 3))][0]
            self.assertEqual(self.refused(Refused, bench.give, "c", many=6).pledge, first)

    def test_behind_all_other_errors(self):
        bench = made()
        bench.demand(("home", "a"))
        bench.demand(("total", 3))
        self.unknown("zz", bench.move, "zz")
        self.unknown("zz", bench.give, "zz", many=4)
        self.refused(InvalidOperation, bench.demand, ("home", "A"))
        for k in range(8):
            bench.demand(("most", "a", k))
        self.too_many(10, bench.demand, ("total", 4))
        self.refused(InvalidOperation, bench.demand, ("total", 3))

    def test_a_demand_that_breaks_is_the_one_that_is_told(self):
        bench = made()
        bench.demand(("total", 3))
        pledge = ("least", "zz", 0)
        self.assertIs(self.refused(Refused, bench.demand, pledge).pledge, pledge)

    def test_rename(self):
        bench = made()
        told = [("least", "b", 2), ("most", "d", 1), ("home", "a"), ("joined", "b", "a"), ("joined", "a", "b"),
                ("total", 3), ("drawing",), ("free",)]
        for pledge in told:
            bench.demand(pledge)
        bench.rename({"a": "d", "b": "free", "c": "home", "d": "a"})
        self.assertEqual(bench.pledges, (
            ("least", "free", 2), ("most", "a", 1), ("home", "d"), ("joined", "free", "d"), ("joined", "d", "free"),
            ("total", 3), ("drawing",), ("free",)))
        self.assertEqual(self.refused(Refused, bench.move, "a").pledge, ("home", "d"))
        bench.undo()
        self.assertEqual(bench.pledges, tuple(told))

    def test_steps_and_trials_keep_pledges_as_they_were(self):
        bench = made()
        bench.demand(("home", "a"))
        with bench.trial():
            bench.waive(("home", "a"))
            bench.move("b")
            bench.demand(("home", "b"))
            self.assertEqual(self.refused(Refused, bench.move, "a").pledge, ("home", "b"))
            bench.undo(many=2)
            self.assertEqual((bench.home, bench.pledges), ("a", ()))
        self.assertEqual((bench.home, bench.pledges), ("a", (("home", "a"),)))
        self.refused(Refused, bench.move, "b")
        bench.waive(("home", "a"))
        bench.move("b")
        bench.undo(many=2)
        self.assertEqual((bench.home, bench.pledges, bench.changes), ("a", (("home", "a"),), 1))
        # A step back is no change: nothing is demanded of it.
        other = made()
        other.give("a")
        other.demand(("total", 4))
        self.assertEqual(other.undo(many=2), (("a has 1",), ()))
        self.assertEqual(other.redo(many=2), ((), ("a has 1",)))
        self.assertEqual(other.pledges, (("total", 4),))

    def test_long_numbers(self):
        bench = Bench(CROSS, "a", Debts.none(CROSS.web), (("a", "b"), ("a", "c"), ("a", "d"), ("a", "e")))
        bench.give("a", many=SIXTY)
        bench.demand(("least", "a", SIXTY))
        bench.give("a", many=SIXTY)
        self.assertEqual(bench.debts.total, 2 * SIXTY)
        self.assertEqual(self.refused(Refused, bench.demand, ("most", "a", SIXTY)).pledge, ("most", "a", SIXTY))
        bench.rename({"a": "z", "b": "b", "c": "c", "d": "d", "e": "e"})
        self.assertEqual((bench.debts["z"], bench.pledges), (2 * SIXTY, (("least", "z", SIXTY),)))
        self.assertEqual(self.refused(UnknownName, bench.walk, "a").word, "a")
        self.assertEqual(self.refused(TooMany, self.eleven).limit, 10)

    def eleven(self):
        bench = made()
        for number in range(11):
            bench.demand(("most", "b", 2 + number))


if __name__ == "__main__":
    unittest.main()
