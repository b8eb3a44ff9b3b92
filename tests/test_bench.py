"""[17.1] and [17.2]: benches, their changes and their account."""

import unittest

from owedround.base.tables import Table
from owedround.errors import InvalidDebts, InvalidNumber, InvalidOperation, InvalidTable, InvalidTie, InvalidTree
from owedround.errors import NothingToUndo, UnknownName
from owedround.owe.burning import is_reduced, reduced
from owedround.owe.debts import Debts, are_alike
from owedround.tree.joining import each_tree
from owedround.turn.hands import leading
from owedround.use.bench import Bench
from cases import ErrorCase
from oracles import trees_by_trial, walked_by_hand
from samples import ALL_STRANGE, CROSS, FLAT, FOUR, FULLEST, HELD, KITE, NO_PLACES, PAIR, PRISM, RING, STAR, TABLES
from samples import TOUCH, TWIST, WHEEL, debts_with_total, grown_drawing
from test_hands import some_trees

SIXTY = 10 ** 60 - 1
TREE = (("a", "b"), ("b", "c"), ("b", "d"))
DEBTS = Debts.from_lines(KITE, "b has 2", "c owes 1", "d has 1")
NAMES = {"a": "d", "b": "c", "c": "x", "d": "a"}
NO_NAMINGS = ALL_STRANGE + ({**NAMES, "a": "c"}, {**NAMES, "a": "A"}, {**NAMES, "e": "e"}, {"a": "b"}, FLAT)


def made():
    return Bench(FLAT, "a", DEBTS, TREE)


def some_bench(table):
    web = table.web
    debts = Debts(web, {place: 2 - at for at, place in enumerate(web.places)})
    return Bench(table, web.places[-1], debts, some_trees(web)[-1])


def lines_by_hand(table, home, debts, tree):
    told = [f"{place}: " + " ".join(row) for place, row in sorted(table.rounds.items())] + ["home " + home]
    for place, amount in sorted(debts.amounts.items()):
        if amount:
            told.append(f"{place} has {amount}" if amount > 0 else f"{place} owes {-amount}")
    return tuple(told + [f"join {a} {b}" for a, b in sorted(tree)])


def news_by_hand(before, now):
    return (tuple(sorted(set(before) - set(now))), tuple(sorted(set(now) - set(before))))


class BenchCase(ErrorCase):
    def has(self, bench, table, home, debts, tree, pledges=()):
        """The bench has just these parts."""
        self.assertEqual((bench.table, bench.home, bench.debts, bench.tree), (table, home, debts, tree))
        self.assertEqual((bench.web, bench.pledges), (table.web, pledges))
        self.assertEqual((bench.table.web, bench.debts.web), (bench.web, bench.web))
        lines = lines_by_hand(table, home, debts, tree)
        self.assertEqual((bench.lines, tuple(bench), len(bench)), (lines, lines, len(pledges)))

    def changed(self, bench, call, **parts):
        """A call changes just these parts, tells the news, and can be taken back and done again."""
        told = {"table": bench.table, "home": bench.home, "debts": bench.debts, "tree": bench.tree,
                "pledges": bench.pledges}
        before, lines, many = bench.twin(), bench.lines, bench.changes
        news = call()
        self.has(bench, **{**told, **parts})
        self.assertEqual(news, news_by_hand(lines, bench.lines))
        self.assertEqual(bench.changes, many + 1)
        after = bench.twin()
        self.assertEqual(bench.undo(), news_by_hand(after.lines, lines))
        self.assertEqual((bench, bench.changes), (before, many))
        self.assertEqual(bench.redo(), news)
        self.assertEqual((bench, bench.changes), (after, many + 1))
        return news


class Changes(BenchCase):
    def test_lend(self):
        for table in TABLES:
            bench = some_bench(table)
            for place in table.web.places[:3]:
                for many in (1, 0, -2, SIXTY):
                    self.changed(bench, lambda: bench.lend(place, many=many), debts=bench.debts.lent(place, many=many))
            self.changed(bench, lambda: bench.lend(place), debts=bench.debts.lent(place))

    def test_give(self):
        for table in TABLES:
            bench = some_bench(table)
            for place in table.web.places[:3]:
                for many in (1, 0, -2, SIXTY, SIXTY, -SIXTY):
                    amounts = bench.debts.amounts
                    self.changed(bench, lambda: bench.give(place, many=many),
                                 debts=bench.debts + many * Debts.at(table.web, place))
                    self.assertEqual(bench.debts[place], amounts[place] + many)
            self.changed(bench, lambda: bench.give(place), debts=bench.debts + Debts.at(table.web, place))

    def test_walk(self):
        for table in TABLES:
            bench = some_bench(table)
            for place in table.web.places[:4] * 2:
                tree = walked_by_hand(table, bench.home, bench.tree, place)
                self.changed(bench, lambda: bench.walk(place), tree=tree, debts=bench.debts.moved(place, bench.home))
            self.assertEqual(self.changed(bench, lambda: bench.walk(bench.home)), ((), ()))

    def test_settle(self):
        for table in (FLAT, TWIST, STAR, CROSS, WHEEL):
            web = table.web
            for home in web.places:
                for tree in some_trees(web, 3):
                    debts = Debts(web, {place: at % 3 for at, place in enumerate(web.places)}) - 5 * Debts.at(web, home)
                    bench, by_hand = Bench(table, home, debts, tree), Bench(table, home, debts, tree)
                    for place in web.places:
                        for _ in range(debts[place] if place != home else 0):
                            by_hand.walk(place)
                    settled = debts.total * Debts.at(web, home)
                    self.changed(bench, bench.settle, debts=settled, tree=by_hand.tree)
                    self.assertEqual(bench, by_hand)
                    self.assertEqual(self.changed(bench, bench.settle), ((), ()))

    def test_settle_what_is_great(self):
        for table in TABLES:
            web = table.web
            bench = Bench(table, web.places[0], Debts(web, {place: SIXTY for place in web.places}), some_trees(web)[0])
            account = bench.account
            bench.settle()
            self.assertEqual(bench.debts, Debts.at(web, web.places[0]) * SIXTY * len(web))
            self.assertEqual(bench.account, account)

    def test_move(self):
        bench = made()
        for home in ("c", "c", "d", "a"):
            self.changed(bench, lambda: bench.move(home), home=home)
        self.assertEqual(bench.move("b"), (("home a",), ("home b",)))

    def test_redraw(self):
        bench = made()
        for table in (TWIST, FLAT.mirror, FLAT, FLAT):
            self.changed(bench, lambda: bench.redraw(table.rounds), table=table)
        told = TWIST.rounds
        bench.redraw(told)
        told.clear()
        self.assertEqual(bench.table, TWIST)

    def test_tie_and_strike(self):
        bench = made()
        bench.give("a", many=SIXTY)
        bench.give("a", many=SIXTY)
        for call, table in (
            (lambda: bench.tie("a", "b", "d", "c"), FLAT.with_tie("a", "b", "d", "c")),
            (lambda: bench.strike("b", "c"), None), (lambda: bench.strike("d", "a"), FLAT),
            (lambda: bench.tie("d", "b", "a", "b"), FLAT.with_tie("d", "b", "a", "b")),
        ):
            if table is None:
                self.refused(InvalidOperation, call)
            else:
                self.changed(bench, call, table=table, debts=renewed(bench.debts, table.web))
        self.assertEqual(bench.debts["a"], 2 * SIXTY)

    def test_rename(self):
        bench = made()
        bench.give("a", many=SIXTY)
        bench.lend("a", many=9)
        table = FLAT.renamed(NAMES)
        tree = (("a", "c"), ("c", "d"), ("c", "x"))
        names = dict(NAMES)
        self.changed(bench, lambda: bench.rename(names), table=table, home="d", tree=tree,
                     debts=bench.debts.renamed(NAMES))
        names.clear()
        self.changed(bench, lambda: bench.rename({place: place for place in bench.web.places}))
        self.changed(bench, lambda: bench.rename({"a": "d", "c": "b", "d": "a", "x": "c"}), table=FLAT, home="a",
                     tree=TREE, debts=bench.debts.renamed({"a": "d", "c": "b", "d": "a", "x": "c"}))
        # Behind another name a place and a tie can stand elsewhere.
        self.changed(bench, lambda: bench.rename({"a": "z", "b": "y", "c": "x", "d": "w"}), home="z",
                     table=FLAT.renamed({"a": "z", "b": "y", "c": "x", "d": "w"}),
                     tree=(("w", "y"), ("x", "y"), ("y", "z")),
                     debts=bench.debts.renamed({"a": "z", "b": "y", "c": "x", "d": "w"}))

    def test_places_that_are_called_like_the_words_of_lines(self):
        names = {"a": "home", "b": "join", "c": "has", "d": "owes"}
        bench = made()
        bench.rename(names)
        self.assertEqual(bench.lines, (
            "has: home owes join", "home: has join", "join: has owes home", "owes: has join", "home home", "has owes 1",
            "join has 2", "owes has 1", "join has join", "join home join", "join join owes"))
        bench.demand(("home", "home"))
        bench.demand(("joined", "owes", "join"))
        bench.rename({"home": "free", "join": "total", "has": "least", "owes": "home"})
        self.assertEqual(bench.pledges, (("home", "free"), ("joined", "home", "total")))

    def test_all_changes_one_after_the_other(self):
        bench, told = made(), []
        for call in (
            lambda: bench.lend("b"), lambda: bench.give("c"), lambda: bench.walk("d"), lambda: bench.move("c"),
            lambda: bench.redraw(TWIST.rounds), lambda: bench.tie("a", "b", "d", "c"), lambda: bench.strike("a", "d"),
            lambda: bench.rename(NAMES), lambda: bench.demand(("home", "x")), lambda: bench.waive(("home", "x")),
        ):
            told.append(bench.twin())
            call()
        self.assertEqual(bench.changes, 10)
        for before in told[::-1]:
            bench.undo()
            self.assertEqual((bench, bench.changes), (before, before.changes))
        self.assertEqual(bench, made())


def renewed(debts, web):
    """The same debts of another web, whatever their numbers are."""
    told = Debts.none(web)
    for place, amount in debts:
        while amount:
            part = max(-SIXTY, min(SIXTY, amount))
            told, amount = told + part * Debts.at(web, place), amount - part
    return told


class Errors(BenchCase):
    def setUp(self):
        self.bench = made()
        self.bench.give("a")
        self.bench.undo()
        self.before = self.bench.twin()

    def tearDown(self):
        # No call that was refused changed anything.
        self.assertEqual((self.bench, self.bench.changes), (self.before, 0))
        self.assertEqual(self.bench.redo(), ((), ("a has 1",)))

    def orders(self, call, good, *wrongs):
        """The order of the checks of a method, each time at a bench of its own."""
        self.in_order(lambda *values, **named: getattr(self.bench.twin(), call)(*values, **named), good, *wrongs)

    def unknown_at(self, call, *values):
        self.unknown(values[-1], getattr(self.bench, call), *values)

    def test_making_one(self):
        good = [FLAT, "a", DEBTS, TREE]
        for wrong in ALL_STRANGE + (KITE, FLAT.rounds):
            self.in_order(Bench, good, (0, wrong, InvalidTable), (1, "zz", UnknownName), (2, None, InvalidDebts),
                          (3, None, InvalidTree))
        for wrong in NO_PLACES:
            self.in_order(Bench, good, (1, wrong, UnknownName), (2, Debts.none(RING), InvalidOperation),
                          (3, TREE[:2], InvalidTree))
        for wrong in ALL_STRANGE + (DEBTS.amounts, FLAT):
            self.refused(InvalidDebts, Bench, FLAT, "a", wrong, TREE)
        for wrong in ALL_STRANGE + (TREE[::-1], list(TREE), KITE.ties, FLAT):
            self.in_order(Bench, good, (2, Debts.none(FOUR), InvalidOperation), (3, wrong, InvalidTree))

    def test_lend_and_give(self):
        for call in ("lend", "give"):
            for wrong in NO_PLACES:
                self.unknown_at(call, wrong)
            for wrong in ALL_STRANGE + ("1", FLAT):
                self.orders(call, (["a"], {"many": 1}), (0, "zz", UnknownName), ("many", wrong, InvalidNumber))
                self.refused(InvalidNumber, getattr(self.bench, call), "a", many=wrong)

    def test_walk_and_move(self):
        for call in ("walk", "move"):
            for wrong in NO_PLACES:
                self.unknown_at(call, wrong)

    def test_settle(self):
        self.assertEqual(self.bench.debts.owing, ("c",))
        self.refused(InvalidOperation, self.bench.settle)
        other = Bench(FLAT, "c", DEBTS, TREE)
        other.settle()
        self.assertEqual(other.debts.lines, ("c has 2",))

    def test_redraw(self):
        rounds = FLAT.rounds
        for wrong in ALL_STRANGE + (
            FLAT, {**rounds, "a": ("c", "b")}, {**rounds, "a": ["b", "c"]}, {**rounds, "a": ("b", "d")}, STAR.rounds,
            {**rounds, "e": ()}, {place: rounds[place] for place in "abc"}, {**rounds, "a": None}, FLAT.lines,
        ):
            self.refused(InvalidTable, self.bench.redraw, wrong)

    def test_tie(self):
        good = ["a", "b", "d", "c"]
        for wrong in NO_PLACES:
            self.orders("tie", good, *[(k, wrong, UnknownName) for k in range(4)])
        self.orders("tie", good, (0, "zz", UnknownName), (1, "d", InvalidTie), (3, "a", InvalidTie))
        self.orders("tie", good, (3, "zz", UnknownName), (2, "a", InvalidTie))
        self.refused(InvalidTie, self.bench.tie, "a", "b", "c", "a")
        self.refused(InvalidTie, self.bench.tie, "a", "b", "a", "b")
        full = Bench(Table.plain(FULLEST), "a", Debts.none(FULLEST), some_trees(FULLEST)[0])
        self.too_many(18, full.tie, "a", "b", "e", "d")
        self.refused(InvalidTie, full.tie, "a", "e", "e", "d")

    def test_strike(self):
        for wrong in NO_PLACES:
            self.orders("strike", ["a", "c"], (0, wrong, UnknownName), (1, wrong, UnknownName))
        for a, b in (("a", "d"), ("d", "a"), ("a", "a")):
            self.refused(InvalidTie, self.bench.strike, a, b)
        for a, b in TREE:
            self.refused(InvalidOperation, self.bench.strike, a, b)
            self.refused(InvalidOperation, self.bench.strike, b, a)
        pair = Bench(Table.plain(PAIR), "a", Debts.none(PAIR), PAIR.ties)
        self.refused(InvalidOperation, pair.strike, "a", "b")
        self.assertEqual(self.bench.twin().strike("c", "a"), (("a: b c", "c: a d b"), ("a: b", "c: b d")))

    def test_rename(self):
        for wrong in NO_NAMINGS:
            self.refused(InvalidOperation, self.bench.rename, wrong)

    def test_undo_and_redo(self):
        bench = made()
        bench.move("b")
        bench.move("c")
        bench.undo()
        for call in (bench.undo, bench.redo):
            for wrong in ALL_STRANGE + (-1, -SIXTY, "1", FLAT):
                self.in_order(lambda many: bench.twin().undo(many=many), [1], (0, wrong, InvalidNumber))
                self.assertIs(self.refused(InvalidNumber, call, many=wrong).value, wrong)
            for many in (2, 3, SIXTY):
                self.assertEqual(self.refused(NothingToUndo, call, many=many).many, many)
        self.assertEqual((bench.home, bench.changes), ("b", 1))
        self.assertEqual(self.refused(NothingToUndo, made().undo).many, 1)
        self.assertEqual(self.refused(NothingToUndo, made().redo).many, 1)


class Steps(BenchCase):
    def moved(self):
        bench = made()
        for home in ("b", "c", "d"):
            bench.move(home)
        return bench

    def test_several_at_once(self):
        bench = self.moved()
        self.assertEqual(bench.undo(many=2), (("home d",), ("home b",)))
        self.assertEqual((bench.home, bench.changes), ("b", 1))
        self.assertEqual(bench.redo(), (("home b",), ("home c",)))
        self.assertEqual(bench.undo(many=2), (("home c",), ("home a",)))
        self.assertEqual((bench.home, bench.changes), ("a", 0))
        self.assertEqual(bench.redo(many=3), (("home a",), ("home d",)))
        self.assertEqual((bench.home, bench.changes), ("d", 3))

    def test_none_at_once(self):
        bench = self.moved()
        bench.undo()
        for call in (bench.undo, bench.redo):
            self.assertEqual(call(many=0), ((), ()))
            self.assertEqual((bench.home, bench.changes), ("c", 2))
        self.assertEqual(made().undo(many=0), ((), ()))
        self.assertEqual(made().redo(many=0), ((), ()))
        self.assertEqual(bench.redo(), (("home c",), ("home d",)))

    def test_the_news_are_those_of_one_change(self):
        bench = made()
        bench.give("a")
        bench.give("a", many=-1)
        self.assertEqual(bench.undo(many=2), ((), ()))
        self.assertEqual(bench.redo(many=2), ((), ()))

    def test_a_new_change_ends_what_could_be_done_again(self):
        bench = self.moved()
        bench.undo(many=2)
        self.refused(UnknownName, bench.move, "zz")
        self.assertEqual(bench.redo(), (("home b",), ("home c",)))
        bench.undo()
        self.assertEqual(bench.move("b"), ((), ()))
        self.assertEqual(self.refused(NothingToUndo, bench.redo).many, 1)
        self.assertEqual(bench.changes, 2)
        self.assertEqual(bench.undo(many=2), (("home b",), ("home a",)))

    def test_changes_that_change_nothing_count(self):
        bench = made()
        for call in (lambda: bench.lend("a", many=0), lambda: bench.give("a", many=0), lambda: bench.walk("a"),
                     lambda: bench.move("a"), lambda: bench.redraw(FLAT.rounds)):
            self.assertEqual(call(), ((), ()))
        self.assertEqual(bench.changes, 5)


class Trials(BenchCase):
    def test_behind_the_block_all_is_as_it_was(self):
        bench = made()
        bench.move("b")
        bench.move("c")
        bench.undo()
        before = bench.twin()
        with bench.trial() as same:
            self.assertIs(same, bench)
            bench.give("a", many=5)
            same.demand(("home", "b"))
            bench.undo(many=3)
            self.assertEqual((bench.home, bench.changes), ("a", 0))
            bench.rename(NAMES)
        self.assertEqual((bench, bench.changes, bench.pledges), (before, 1, ()))
        self.assertEqual(bench.redo(), (("home b",), ("home c",)))
        self.assertEqual(bench.undo(many=2), (("home c",), ("home a",)))

    def test_as_it_was_when_the_block_was_entered(self):
        bench = made()
        trial = bench.trial()
        bench.move("b")
        with trial:
            bench.move("c")
        self.assertEqual((bench.home, bench.changes), ("b", 1))

    def test_errors_go_on(self):
        bench = made()
        with self.assertRaises(UnknownName):
            with bench.trial():
                bench.move("b")
                bench.move("zz")
        self.assertEqual((bench.home, bench.changes), ("a", 0))
        with self.assertRaises(ZeroDivisionError):
            with bench.trial():
                bench.move("b")
                self.assertEqual(1 // (bench.changes - 1), 0)
        self.assertEqual((bench.home, bench.changes), ("a", 0))

    def test_trials_within_trials(self):
        bench = made()
        bench.move("b")
        with bench.trial():
            bench.move("c")
            with bench.trial() as same:
                same.undo(many=2)
                with self.assertRaises(InvalidNumber):
                    with bench.trial():
                        bench.move("d")
                        bench.undo(many=-1)
                self.assertEqual((bench.home, bench.changes), ("a", 0))
                same.redo()
                same.move("d")
            self.assertEqual((bench.home, bench.changes), ("c", 2))
            bench.undo()
        self.assertEqual((bench.home, bench.changes), ("b", 1))
        self.refused(NothingToUndo, bench.redo)

    def test_during(self):
        bench = made()
        bench.move("b")
        bench.undo()
        self.assertEqual(bench.during(lambda same: same.give("b", many=-3)), (("b has 2",), ("b owes 1",)))
        self.assertIs(bench.during(lambda same: same), bench)
        self.assertIsNone(bench.during(lambda same: None))
        self.assertEqual(bench.during(lambda same: same.during(lambda inner: (inner.move("c"), inner.changes)[1])), 1)
        self.assertEqual((bench, bench.changes), (made(), 0))
        self.unknown("zz", bench.during, lambda same: (same.move("d"), same.move("zz")))
        self.assertEqual((bench.home, bench.redo()), ("a", (("home a",), ("home b",))))


class Twins(BenchCase):
    def test_independent_with_all(self):
        bench = made()
        bench.demand(("total", 2))
        bench.move("b")
        bench.move("c")
        bench.undo()
        twin = bench.twin()
        self.assertIs(type(twin), Bench)
        self.assertEqual((twin, twin.changes, twin.pledges), (bench, 2, (("total", 2),)))
        twin.move("d")
        self.assertEqual((bench.home, bench.changes), ("b", 2))
        self.assertEqual(bench.redo(), (("home b",), ("home c",)))
        self.refused(NothingToUndo, twin.redo)
        self.assertEqual(twin.undo(many=3), (("home d",), ("home a",)))
        self.assertEqual((twin.pledges, bench.pledges), ((), (("total", 2),)))
        self.assertEqual(twin.redo(many=3), (("home a",), ("home d",)))
        again = bench.twin()
        bench.undo(many=3)
        self.assertEqual((again.home, again.changes), ("c", 3))
        again = bench.twin()
        self.assertEqual(again.redo(many=3), (("home a",), ("home c",)))
        self.assertEqual((bench.home, bench.changes), ("a", 0))

    def test_a_twin_out_of_a_trial(self):
        bench = made()
        with bench.trial():
            bench.move("b")
            twin = bench.twin()
        self.assertEqual((twin.home, twin.changes, bench.home), ("b", 1, "a"))


class Accounts(BenchCase):
    def account_by_hand(self, bench):
        least = sorted(trees_by_trial(bench.web))[0] if len(bench.web.ties) < 13 else next(each_tree(bench.web))
        return bench.debts + leading(bench.table, bench.home, least, bench.tree)

    def check(self, bench):
        told = bench.account
        self.assertIs(is_reduced(told, bench.home), True)
        self.assertIs(are_alike(told, self.account_by_hand(bench)), True)
        return told

    def test_lending_walking_and_settling_leave_it(self):
        for table in (FLAT, TWIST, STAR, CROSS, TOUCH, WHEEL, PRISM, HELD, Table.plain(FULLEST)):
            bench = some_bench(table)
            account = self.check(bench)
            for place in table.web.places:
                bench.lend(place, many=7)
                self.assertEqual(bench.account, account)
                bench.walk(place)
                self.assertEqual(self.check(bench), account)
            for place in table.web.places:
                bench.give(place, many=1000)
            account = bench.account
            bench.settle()
            self.assertEqual(self.check(bench), account)

    def test_moving_leaves_its_class_in_drawings(self):
        for table in (FLAT, STAR, TOUCH, WHEEL, PRISM, HELD, grown_drawing("abcdefg", 12, 11)):
            bench = some_bench(table)
            account = bench.account
            for home in table.web.places:
                bench.move(home)
                self.assertIs(are_alike(bench.account, account), True)
                bench.walk(table.web.places[0])

    def test_moving_can_change_it_elsewhere(self):
        found = set()
        for tree in trees_by_trial(KITE):
            for one in "abcd":
                for other in "abcd":
                    bench = Bench(TWIST, one, DEBTS, tree)
                    account = bench.account
                    bench.move(other)
                    found |= {are_alike(account, bench.account)}
        self.assertEqual(found, {True, False})

    def test_benches_that_settle_alike(self):
        for table in (FLAT, TWIST, STAR, CROSS):
            settled = {}
            for tree in trees_by_trial(table.web):
                for debts in debts_with_total(table.web, 3, 6, 170, most=2):
                    free = reduced(debts, "b")
                    bench = Bench(table, "b", free, tree)
                    account = tuple(bench.account)
                    bench.settle()
                    told = (bench.debts.lines, bench.tree)
                    self.assertEqual(settled.setdefault(account, told), told)


class Values(BenchCase):
    def test_properties_and_text(self):
        bench = made()
        self.has(bench, FLAT, "a", DEBTS, TREE)
        self.assertEqual(str(bench), "bench of 4 places, 5 ties, home a, total 2, 0 pledges")
        bench.demand(("home", "a"))
        bench.give("b", many=-9)
        self.assertEqual(str(bench), "bench of 4 places, 5 ties, home a, total -7, 1 pledges")
        self.assertEqual(bench.lines, (
            "a: b c", "b: a c d", "c: a d b", "d: b c", "home a", "b owes 7", "c owes 1", "d has 1", "join a b",
            "join b c", "join b d"))

    def test_equality(self):
        bench = made()
        bench.demand(("total", 2))
        self.assertNotEqual(bench, made())
        for call in (lambda: bench.move("b"), lambda: bench.lend("a"),
                     lambda: bench.redraw(TWIST.rounds), lambda: bench.walk("d"), lambda: bench.waive(("total", 2)),
                     lambda: bench.rename(NAMES), lambda: bench.strike("x", "d")):
            before = bench.twin()
            self.assertTrue(bench == before)
            call()
            self.assertTrue(bench != before)
            self.assertFalse(bench == before)
        one, other = made(), made()
        one.demand(("total", 2))
        one.demand(("home", "a"))
        other.demand(("home", "a"))
        other.demand(("total", 2))
        self.assertNotEqual(one, other)
        for value in ALL_STRANGE + (FLAT, DEBTS, bench.lines, str(bench)):
            self.assertFalse(bench == value)
            self.assertTrue(bench != value)
        # Each part alone makes benches differ.
        parts = [FLAT, "a", DEBTS, TREE]
        for at, other in ((0, TWIST), (1, "b"), (2, -DEBTS), (3, (("a", "b"), ("b", "c"), ("c", "d")))):
            self.assertEqual(Bench(*parts), Bench(*parts))
            self.assertNotEqual(Bench(*parts), Bench(*parts[:at], other, *parts[at + 1:]))
        # What was changed before does not matter.
        bench = made()
        bench.move("a")
        self.assertEqual(bench, made())

    def test_membership(self):
        bench = made()
        bench.demand(("total", 2))
        bench.demand(("least", "b", 1))
        for line in bench.lines:
            self.assertIs(line in bench, True)
        for pledge in bench.pledges:
            self.assertIs(pledge in bench, True)
        for value in ALL_STRANGE + (
            "home b", "home", "a", "b has 1", "join b a", "a: c b", ("total", 3), ["total", 2], ("least", "b", True),
            ("least", "b"), bench.lines, bench, FLAT, DEBTS, TREE[0],
        ):
            self.assertIs(value in bench, False, value)

    def test_iteration_is_over_the_lines(self):
        bench = made()
        self.assertEqual(list(bench), list(bench.lines))
        self.assertEqual(len(bench), 0)

    def test_nothing_is_shared(self):
        bench = made()
        bench.debts.amounts.clear()
        bench.table.rounds.clear()
        bench.account.amounts.clear()
        self.has(bench, FLAT, "a", DEBTS, TREE)
        for name in "table web home debts tree lines account pledges changes".split():
            with self.assertRaises(AttributeError):
                setattr(bench, name, None)


if __name__ == "__main__":
    unittest.main()
