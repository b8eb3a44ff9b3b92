"""The examples of the document, word for word."""

import doctest
import importlib
import unittest

import samples

MODULES = (
    "base.words", "base.webs", "base.rings", "base.tables", "owe.debts", "owe.burning", "tree.joining",
    "owe.classes", "lean.leanings", "lean.ways", "lean.broken", "turn.hands", "turn.rides", "turn.tours",
    "turn.least", "turn.busy", "dual.duals", "flat.papers", "use.bench",
)

WORDS = '''
>>> [is_integer(-7), is_count(True), is_name("ab1"), are_names(()), are_names(("b", "a", "b")), is_naming(("a", "b"), {"a": "b", "b": "a"})]
[True, False, False, True, True, True]
>>> [fraction(6, -4), fraction(0, 9), is_fraction((2, 4)), is_fraction((-3, 2)), part_of_one((-3, 2)), part_of_one((7, 3)), part_of_one((4, 1))]
[(-3, 2), (0, 1), False, True, (1, 2), (1, 3), (0, 1)]
'''

WEBS = '''
>>> [str(KITE), KITE.spare, KITE.neighbours("b"), KITE.ties_at("d"), KITE.ties_within(("a", "b", "c")), KITE.ties_across(("a", "d"))]
['web of 4 places, 5 ties', 2, ('a', 'c', 'd'), (('b', 'd'), ('c', 'd')), (('a', 'b'), ('a', 'c'), ('b', 'c')), (('a', 'b'), ('a', 'c'), ('b', 'd'), ('c', 'd'))]
>>> tail = KITE.with_place("e", "d")
>>> [tail.bridges, tail.hangs(("a", "d")), tail.hangs(("c", "d", "e")), tail.without_tie("c", "b").lines[2], ("d", "e") in tail, "f" in tail, len(tail)]
[(('d', 'e'),), False, True, 'tie b d', True, False, 5]
>>> [ring_web(("b", "a", "c")) == full_web(("a", "b", "c")), Web.from_lines("tie b a").places, list(Web.of_ties(("b", "c"), ("a", "b")))]
[True, ('a', 'b'), [('a', 'b'), ('b', 'c')]]
'''

RINGS = '''
>>> [is_ring(KITE, ("d", "c", "b")), is_ring(KITE, ("a", "b", "d")), turned_least(("c", "b", "a")), ring_ties(("c", "b", "a")), len(list(each_ring(KITE))), list(each_ring(KITE))[:3]]
[True, False, ('a', 'c', 'b'), (('a', 'b'), ('a', 'c'), ('b', 'c')), 6, [('a', 'b', 'c'), ('a', 'b', 'd', 'c'), ('a', 'c', 'b')]]
'''

TABLES = '''
>>> [FLAT.rims, FLAT.lack, TWIST.lack, len(TWIST), FLAT.behind("c", "a"), FLAT.ahead("c", "a"), FLAT.rim_along("b", "a")]
[(('a', 'b', 'c'), ('a', 'c', 'd', 'b'), ('b', 'd', 'c')), 0, 2, 1, 'd', 'b', ('a', 'c', 'd', 'b')]
>>> [TWIST.rims, str(FLAT), FLAT.mirror.lines, FLAT.with_round("c", ("a", "b", "d")) == TWIST, count_tables(KITE)]
[(('a', 'b', 'c', 'd', 'b', 'a', 'c', 'b', 'd', 'c'),), 'table of 4 places, 5 ties, 3 rims', ('a: b c', 'b: a d c', 'c: a b d', 'd: b c'), True, 4]
>>> [FLAT.with_tie("a", "b", "d", "c").lack, FLAT.with_tie("a", "c", "d", "c").lack, FLAT.without_tie("b", "c").lines]
[0, 2, ('a: b c', 'b: a d', 'c: a d', 'd: b c')]
>>> [sides_of(FLAT, ("a", "b", "c")), ties_within_sides(FLAT, ("b", "c", "a")), sides_of(FLAT, ("c", "b", "a"))[1]]
[((('a', 'b', 'c'),), (('a', 'c', 'd', 'b'), ('b', 'd', 'c'))), ((), (('b', 'd'), ('c', 'd'))), (('a', 'b', 'c'),)]
'''

DEBTS = '''
>>> some = Debts(KITE, {"a": 2, "b": -1, "c": 0, "d": 0})
>>> [some.total, some.owing, some.lines, some.lent("a").amounts, some.lent_together(("a", "c")).lines, some.moved("a", "d", many=2).lines, str(some)]
[1, ('b',), ('a has 2', 'b owes 1'), {'a': 0, 'b': 0, 'c': 1, 'd': 0}, ('a has 1', 'b has 1', 'c owes 2', 'd has 1'), ('b owes 1', 'd has 2'), 'debts of 4 places, total 1, 1 owing']
>>> other = Debts.from_lines(KITE, "c has 1")
>>> [are_alike(some, other), plan_between(some, other), plan_between(other, some), are_alike(other, Debts.at(KITE, "a")), some.after({"a": 3, "b": 2, "c": 2, "d": 2}) == other]
[True, {'a': 1, 'b': 0, 'c': 0, 'd': 0}, {'a': 0, 'b': 1, 'c': 1, 'd': 1}, False, True]
>>> [(some - other).lines, (2 * some).amounts["a"], (-some).is_free, "b owes 1" in some, plain_plan(KITE, {"a": -1, "b": 0, "c": 0, "d": 4}), joined_plans(KITE)]
[('a has 2', 'b owes 1', 'c owes 1'), 4, False, True, {'a': 0, 'b': 1, 'c': 1, 'd': 5}, {'a': 0, 'b': 0, 'c': 0, 'd': 0}]
'''

BURNING = '''
>>> have = Debts.from_lines(KITE, "a owes 1", "b has 2", "c has 2")
>>> [lending_set(have, "a"), reduced(have, "a").lines, plan_to_reduced(have, "a"), reduced(have, "d").lines, can_be_free(have)]
[('b', 'c', 'd'), ('a has 3',), {'a': 0, 'b': 2, 'c': 2, 'd': 2}, ('a has 1', 'd has 2'), True]
>>> lent = Debts.from_lines(KITE, "b has 1", "d owes 1")
>>> [is_reduced(lent, "d"), lending_set(lent, "d"), is_burning_order(lent, "d", ("d", "c", "a", "b")), is_burning_order(lent, "d", ("d", "b", "c", "a")), can_be_free(lent)]
[True, (), True, False, False]
>>> [is_reduced(have, "a"), burning_order(have, "a"), is_reduced(have, "d"), [(one["b"], one["c"], one["d"]) for one in each_reduced(KITE, "a", 0)]]
[False, None, False, [(0, 0, 0), (0, 0, 1), (0, 1, 0), (0, 1, 1), (0, 2, 0), (1, 0, 0), (1, 0, 1), (2, 0, 0)]]
'''

JOINING = '''
>>> TREE = (("a", "b"), ("a", "c"), ("b", "d"))
>>> [is_joining_tree(KITE, TREE), is_joining_tree(KITE, (("a", "b"), ("a", "c"), ("b", "c"))), is_joining_tree(KITE, TREE[::-1]), count_trees(KITE), count_trees(FOUR), count_trees(RING)]
[True, False, False, 8, 16, 3]
>>> list(each_tree(KITE))[:3]
[(('a', 'b'), ('a', 'c'), ('b', 'd')), (('a', 'b'), ('a', 'c'), ('c', 'd')), (('a', 'b'), ('b', 'c'), ('b', 'd'))]
>>> [way_in(KITE, TREE, "c", "d"), ring_closed(KITE, TREE, ("c", "d")), ring_closed(KITE, TREE, ("b", "c")), cut_closed(KITE, TREE, ("a", "b")), side_of(KITE, TREE, ("a", "b"), "c")]
[('c', 'a', 'b', 'd'), ('a', 'b', 'd', 'c'), ('a', 'b', 'c'), (('a', 'b'), ('b', 'c'), ('c', 'd')), ('a', 'c')]
>>> [exchanged(KITE, TREE, ("a", "b"), ("c", "d")), hands_of(KITE, TREE, "d"), tree_of_hands(KITE, "d", {"a": "b", "b": "d", "c": "a"}) == TREE, is_hands(KITE, "d", {"a": "c", "b": "d", "c": "a"})]
[(('a', 'c'), ('b', 'd'), ('c', 'd')), {'a': 'b', 'b': 'd', 'c': 'a'}, True, False]
'''

CLASSES = '''
>>> step = Debts.from_lines(KITE, "a owes 1", "b has 1")
>>> far = Debts.from_lines(KITE, "a owes 1", "d has 1")
>>> [order_of(step), order_of(far), heights_of(step), heights_of(far)["d"], order_of(Debts.none(RING))]
[8, 2, {'a': (0, 1), 'b': (5, 8), 'c': (3, 8), 'd': (1, 2)}, (1, 1), 1]
>>> [pairing(step, step), pairing(step, far), pairing(far, step), pairing(far, far), pairing(step, 2 * step), pairing(2 * far, step)]
[(5, 8), (1, 2), (1, 2), (0, 1), (1, 4), (0, 1)]
>>> [heights_of(Debts.none(KITE).lent("a")), len(list(each_class(KITE))), list(each_class(KITE))[0].lines, list(each_class(KITE))[3].lines, list(each_class(KITE))[7].lines]
[{'a': (0, 1), 'b': (1, 1), 'c': (1, 1), 'd': (1, 1)}, 8, (), ('a owes 2', 'c has 1', 'd has 1'), ('a owes 2', 'b has 2')]
'''

LEANINGS = '''
>>> LATE = {("a", "b"): "b", ("a", "c"): "c", ("b", "c"): "c", ("b", "d"): "d", ("c", "d"): "d"}
>>> [debts_of(KITE, LATE).lines, sources(KITE, LATE), ring_of(KITE, LATE), leaning_order(KITE, LATE), is_led(KITE, LATE, "a"), is_led(KITE, LATE, "b")]
[('a owes 1', 'c has 1', 'd has 1'), ('a',), None, ('a', 'b', 'c', 'd'), True, False]
>>> [turned(KITE, LATE, ("cut", ("d",)))[("b", "d")], debts_of(KITE, turned(KITE, LATE, ("cut", ("c", "d")))).lines, is_turn(KITE, LATE, ("cut", ("c",))), sources(KITE, opposite(KITE, LATE))]
['b', ('b has 2', 'c owes 1'), False, ('d',)]
>>> some = Debts.from_lines(KITE, "a has 2", "b owes 1")
>>> [crowded(some), leaning_with(some), is_crowded(some, ("b", "c")), crowded(debts_of(KITE, LATE)), is_crowded(Debts.none(RING), ("a", "b", "c"))]
[('b', 'c', 'd'), None, False, None, False]
'''

WAYS = '''
>>> one = {("a", "b"): "b", ("a", "c"): "c", ("b", "c"): "c"}
>>> other = {("a", "b"): "b", ("a", "c"): "a", ("b", "c"): "b"}
>>> round_one, round_other = {("a", "b"): "b", ("a", "c"): "a", ("b", "c"): "c"}, {("a", "b"): "a", ("a", "c"): "c", ("b", "c"): "b"}
>>> [way_between(RING, one, other), way_between(RING, one, round_one), is_way(RING, round_one, round_other, ((), (("c", "a", "b"),))), is_way(RING, one, other, ((("c",), ("b", "c")), ()))]
[((('c',),), ()), None, True, False]
>>> [choice_of(RING, one)[0], choice_of(RING, round_one)[0], choice_of(KITE, turned(KITE, LATE, ("cut", ("d",))))[0], leaning_alike(Debts.none(RING)) in (round_one, round_other)]
['ringless', 'leaned', 'ringless', True]
>>> leaning_alike(Debts.none(KITE))
raises InvalidOperation
'''

BROKEN = '''
>>> heap = Debts.at(KITE, "a", "a")
>>> [is_broken(heap), lacking(heap), broken_alike(heap).lines, is_broken(Debts.at(KITE, "a", "d")), lacking(Debts.at(KITE, "b", "c"))]
[False, ('b', 'c', 'd'), ('b has 1', 'c has 1'), True, None]
>>> [is_breaking(Debts.at(KITE, "a", "d"), ((("a", "b"), ("b", "c"), ("b", "d")), {("a", "c"): "a", ("c", "d"): "d"})), len(list(each_broken(KITE))), [debts.lines for debts in each_broken(KITE)][:2]]
[True, 8, [('c has 1', 'd has 1'), ('c has 2',)]]
>>> leaning = broken_leaning(Debts.at(KITE, "b", "c"), "a")
>>> [debts_of(KITE, leaning).lines, is_led(KITE, leaning, "a"), leaning[("a", "b")], breaking(Debts.none(KITE))]
[('a owes 1', 'b has 1', 'c has 1'), True, 'b', None]
'''

HANDS = '''
>>> tree = (("a", "b"), ("b", "c"), ("b", "d"))
>>> [walk(FLAT, "d", tree, "a"), walked(FLAT, "d", tree, "a"), walk(FLAT, "d", tree, "b"), walked(FLAT, "d", tree, "b"), walk(FLAT, "d", tree, "d")]
[('a', 'c', 'a', 'b', 'a', 'c', 'd'), (('a', 'b'), ('a', 'c'), ('c', 'd')), ('b', 'a', 'c', 'a', 'b', 'c', 'd'), (('a', 'b'), ('b', 'c'), ('c', 'd')), ('d',)]
>>> debts = Debts.at(KITE, "a") - Debts.at(KITE, "d")
>>> [acted(FLAT, "d", tree, debts) == walked(FLAT, "d", tree, "a"), turns_made(FLAT, "d", tree, debts), acted(TWIST, "d", tree, debts)]
[True, {'a': 3, 'b': 1, 'c': 2}, (('a', 'c'), ('b', 'd'), ('c', 'd'))]
>>> [leading(FLAT, "d", tree, (("a", "b"), ("b", "c"), ("c", "d"))).lines, walked_back(FLAT, "d", (("a", "b"), ("a", "c"), ("c", "d")), "a") == tree, sent(FLAT, "d", tree, "a", "b") == sent(FLAT, "d", tree, "b", "a")]
[('b has 1', 'd owes 1'), True, True]
>>> [walks_back(FLAT, "d", tree, "b"), walks_back(FLAT, "d", tree, "a"), walks_back(FLAT, "d", tree, "d")]
[8, 2, 1]
'''

RIDES = '''
>>> ride = ({"a": "b", "b": "c", "c": "a", "d": "b"}, "a")
>>> [is_ride(FLAT, ride), is_ride(FLAT, ({"a": "b", "b": "a", "c": "d", "d": "c"}, "a")), is_ride(FLAT, (ride[0], "d")), loop_of(FLAT, stepped_back(FLAT, ride))]
[True, False, False, ('c', 'b')]
>>> [stepped(FLAT, ride), stepped_back(FLAT, ride), stepped(FLAT, ride, many=10 ** 20) == ride, tree_of_ride(FLAT, ride)]
[({'a': 'c', 'b': 'c', 'c': 'a', 'd': 'b'}, 'c'), ({'a': 'b', 'b': 'c', 'c': 'b', 'd': 'b'}, 'c'), True, (('a', 'c'), ('b', 'c'), ('b', 'd'))]
>>> [ride_at(FLAT, (("a", "c"), ("b", "c"), ("b", "d")), "a", "b") == ride, len(round_of(FLAT, ride)), count_rounds(KITE)]
[True, 10, 8]
>>> [steps_to_turn(FLAT, ride), stepped(FLAT, ride, many=7), steps_to_turn(TWIST, ride)]
[7, ({'a': 'c', 'b': 'a', 'c': 'b', 'd': 'b'}, 'a'), None]
>>> [turned_ride(FLAT, ride) == stepped(FLAT, ride, many=7), same_round(FLAT, ride, turned_ride(FLAT, ride)), same_round(TWIST, ride, turned_ride(TWIST, ride))]
[True, True, False]
>>> [ride_class(FLAT, ride).lines, ride_class(TWIST, ride) == ride_class(TWIST, turned_ride(TWIST, ride)), turning_debts(FLAT, ("a", "b", "c")).lines, turning_debts(TWIST, ("a", "b", "c")).lines]
[('a owes 1', 'b has 2'), False, ('b owes 1', 'c owes 1', 'd has 2'), ('b owes 1', 'd has 1')]
'''

TOURS = '''
>>> tree = (("a", "b"), ("b", "c"), ("b", "d"))
>>> tour(FLAT, tree, "a", "b")
(('a', 'b'), ('b', 'c'), ('c', 'a'), ('c', 'd'), ('c', 'b'), ('b', 'd'), ('d', 'c'), ('d', 'b'), ('b', 'a'), ('a', 'c'))
>>> [first_met(FLAT, tree, "a", "b"), list(first_met(FLAT, tree, "a", "b"))[2], broken_by(FLAT, tree, "a", "b").lines, broken_by(FLAT, tree, "a", "c").lines]
[{('a', 'b'): 'a', ('b', 'c'): 'b', ('a', 'c'): 'c', ('c', 'd'): 'c', ('b', 'd'): 'b'}, ('a', 'c'), ('c has 2',), ('a has 1', 'c has 1')]
>>> [tree_by(FLAT, Debts.at(KITE, "c", "c"), "a", "b") == tree, toured(FLAT, "a", tree, Debts.from_lines(KITE, "a owes 1", "b has 1")), broken_by(TWIST, (("a", "b"), ("a", "c"), ("b", "d")), "a", "b").lines]
[True, (('a', 'c'), ('b', 'c'), ('b', 'd')), ('b has 1', 'd has 1')]
'''

LEAST = '''
>>> leaning = tour_leaning(FLAT, (("a", "c"), ("b", "c"), ("b", "d")), "a", "b")
>>> [leaning, debts_of(KITE, leaning).lines, is_least(FLAT, ("a", "b", "c"), leaning), tree_by_leaning(FLAT, leaning, "a", "b")]
[{('a', 'b'): 'a', ('a', 'c'): 'c', ('b', 'c'): 'b', ('b', 'd'): 'd', ('c', 'd'): 'c'}, ('c has 1',), True, (('a', 'c'), ('b', 'c'), ('b', 'd'))]
>>> inner = ("b", "d", "c")
>>> [is_right_ring(FLAT, inner, leaning, ("c", "b", "d")), is_right_ring(FLAT, inner, leaning, ("a", "c", "b")), is_right_ring(FLAT, ("a", "c", "d", "b"), leaning, ("b", "d", "c")), right_ring(FLAT, ("a", "b", "c"), leaning)]
[True, True, False, None]
>>> [least_of(FLAT, inner, leaning), is_way_to_least(FLAT, inner, leaning, (("b", "d", "c"),)), is_way_to_least(FLAT, inner, leaning, (("a", "c", "b"), ("a", "b", "d", "c"))), is_way_to_least(FLAT, inner, leaning, (("a", "c", "b"),))]
[{('a', 'b'): 'a', ('a', 'c'): 'c', ('b', 'c'): 'c', ('b', 'd'): 'b', ('c', 'd'): 'd'}, True, True, False]
>>> other = {("a", "b"): "b", ("a", "c"): "c", ("b", "c"): "c", ("b", "d"): "b", ("c", "d"): "d"}
>>> [tree_by_leaning(TWIST, other, "a", "b"), is_tour_leaning(TWIST, "a", "b", other), tour_leaning(TWIST, (("a", "b"), ("b", "d"), ("c", "d")), "a", "b")[("c", "d")]]
[(('a', 'b'), ('b', 'd'), ('c', 'd')), False, 'c']
>>> [len(list(each_least(FLAT, inner, "d"))), is_tour_leaning(FLAT, "a", "b", leaning), is_least(FLAT, inner, leaning)]
[8, True, False]
'''

BUSY = '''
>>> tree = (("a", "c"), ("b", "c"), ("b", "d"))
>>> [outer_busy(FLAT, tree, "a", "b"), inner_busy(FLAT, tree, "a", "b"), outer_busy(TWIST, tree, "a", "b"), inner_busy(TWIST, tree, "a", "b"), inner_busy(FLAT, (("a", "b"), ("b", "c"), ("c", "d")), "a", "b")]
[(('a', 'b'), ('c', 'd')), (), (('a', 'b'),), (('b', 'd'),), (('a', 'b'), ('b', 'c'), ('c', 'd'))]
>>> counts = busy_counts(FLAT, "a", "b")
>>> [counts, counts == busy_counts(TWIST, "a", "b"), [told_at(counts, x, y) for x, y in ((1, 1), (2, 1), (1, 2), (2, 0), (1, 0), (0, 2), (0, 1), (2, 2), (0, 0))], levels(KITE, "a")]
[{(0, 1): 1, (0, 2): 1, (1, 0): 1, (1, 1): 2, (2, 0): 2, (3, 0): 1}, True, [8, 24, 14, 18, 4, 6, 2, 32, 0], (1, 3, 4)]
'''

DUALS = '''
>>> [rim_names(STAR)["rc"], dual_of(STAR).lines, names_back(STAR), dual_ties(STAR)[("a", "b")]]
[('a', 'd', 'b'), ('ra: rb rc rd', 'rb: ra rd rc', 'rc: ra rb rd', 'rd: ra rc rb'), {'ra': 'c', 'rb': 'a', 'rc': 'b', 'rd': 'd'}, ('ra', 'rc')]
>>> spokes = (("a", "b"), ("a", "c"), ("a", "d"))
>>> [dual_of(dual_of(STAR)).renamed(names_back(STAR)) == STAR, rest_of(STAR, spokes), dual_debts(STAR, Debts.at(FOUR, "b") - Debts.at(FOUR, "a")).lines]
[True, (('ra', 'rd'), ('rb', 'rd'), ('rc', 'rd')), ('ra owes 2', 'rb has 1', 'rd has 1')]
>>> dual_leaning(STAR, {("a", "b"): "b", ("a", "c"): "c", ("a", "d"): "d", ("b", "c"): "c", ("b", "d"): "d", ("c", "d"): "d"})
{('ra', 'rb'): 'rb', ('ra', 'rc'): 'ra', ('ra', 'rd'): 'ra', ('rb', 'rc'): 'rc', ('rb', 'rd'): 'rb', ('rc', 'rd'): 'rd'}
>>> dual_of(FLAT)
raises InvalidOperation
>>> dual_of(TWIST)
raises InvalidDrawing
'''

PAPERS = '''
>>> star, gap = (("a", "b"), ("b", "c"), ("b", "d")), Debts.at(KITE, "a") - Debts.at(KITE, "d")
>>> [acted(TWIST, "d", star, gap), acted(TWIST, "a", star, gap) == acted(TWIST, "d", star, gap), acted(FLAT, "a", star, gap) == acted(FLAT, "d", star, gap)]
[(('a', 'c'), ('b', 'd'), ('c', 'd')), False, True]
>>> [is_difference(TWIST, ("d", "a", star, gap)), is_difference(FLAT, ("d", "a", star, gap)), is_difference(TWIST, ("d", "d", star, gap)), difference_of(FLAT)]
[True, False, False, None]
>>> [is_disagreement(TWIST, ("d", star, gap)), is_disagreement(FLAT, ("d", star, gap)), is_disagreement(TWIST, ("d", star, gap + gap)), disagreement_of(FLAT)]
[True, False, False, None]
>>> [is_unturned_ring(TWIST, ("c", "b", "a")), is_unturned_ring(FLAT, ("a", "b", "c")), is_unturned_ring(TWIST, ("a", "b", "d")), unturned_ring(FLAT)]
[True, False, False, None]
>>> [is_difference(TWIST, difference_of(TWIST)), is_disagreement(TWIST, disagreement_of(TWIST)), is_unturned_ring(TWIST, unturned_ring(TWIST))]
[True, True, True]
'''

BENCH = '''
>>> bench = Bench(FLAT, "a", Debts.at(KITE, "d"), (("a", "b"), ("b", "c"), ("b", "d")))
>>> [bench.account.lines, bench.walk("d"), bench.lend("a"), bench.account.lines]
[('a owes 1', 'b has 1', 'd has 1'), (('d has 1', 'join b c', 'join b d'), ('a has 1', 'join a c', 'join c d')), (('a has 1',), ('a owes 1', 'b has 1', 'c has 1')), ('a owes 1', 'b has 1', 'd has 1')]
>>> [bench.settle(), bench.tree, bench.demand(("joined", "c", "a")), bench.changes, str(bench)]
[(('a owes 1', 'b has 1', 'c has 1'), ('a has 1',)), (('a', 'b'), ('a', 'c'), ('c', 'd')), ((), ()), 4, 'bench of 4 places, 5 ties, home a, total 1, 1 pledges']
>>> bench.walk("b")
raises Refused
>>> [bench.move("b"), bench.account.lines, bench.strike("b", "d"), bench.undo(many=2), "home a" in bench, bench.during(lambda same: same.give("b", many=-3)), bench.debts.lines]
[(('home a',), ('home b',)), ('b owes 1', 'c has 2'), (('b: a c d', 'd: b c'), ('b: a c', 'd: c')), (('b: a c', 'd: c', 'home b'), ('b: a c d', 'd: b c', 'home a')), True, ((), ('b owes 3',)), ('a has 1',)]
'''


class Examples(unittest.TestCase):
    def known(self):
        """What the examples may name: the webs and tables of the document, and all that the modules have."""
        known = {name: getattr(samples, name) for name in ("RING", "KITE", "FOUR", "FLAT", "TWIST", "STAR")}
        for name in MODULES:
            module = importlib.import_module("owedround." + name)
            known.update({word: getattr(module, word) for word in dir(module) if word[0] != "_"})
        return known

    def check(self, text):
        # The document tells an error by its name alone.
        told = text.replace("\nraises ", "\nTraceback (most recent call last):\n    ...\n")
        test = doctest.DocTestParser().get_doctest(told, self.known(), "document", None, 0)
        said = []
        runner = doctest.DocTestRunner(verbose=False, optionflags=doctest.IGNORE_EXCEPTION_DETAIL)
        result = runner.run(test, out=said.append)
        self.assertEqual(result.attempted, text.count("\n>>> "))
        self.assertEqual(result.failed, 0, "".join(said))

    def test_words(self):
        self.check(WORDS)

    def test_webs(self):
        self.check(WEBS)

    def test_rings(self):
        self.check(RINGS)

    def test_tables(self):
        self.check(TABLES)

    def test_debts(self):
        self.check(DEBTS)

    def test_burning(self):
        self.check(BURNING)

    def test_joining(self):
        self.check(JOINING)

    def test_classes(self):
        self.check(CLASSES)

    def test_leanings(self):
        self.check(LEANINGS)

    def test_ways(self):
        self.check(LEANINGS + WAYS)

    def test_broken(self):
        self.check(BROKEN)

    def test_hands(self):
        self.check(HANDS)

    def test_rides(self):
        self.check(RIDES)

    def test_tours(self):
        self.check(TOURS)

    def test_least(self):
        self.check(LEAST)

    def test_busy(self):
        self.check(BUSY)

    def test_duals(self):
        self.check(DUALS)

    def test_papers(self):
        self.check(PAPERS)

    def test_bench(self):
        self.check(BENCH)


if __name__ == "__main__":
    unittest.main()
