"""The opening of the interface: each name exists as written, in the file that lists it."""

import importlib
import inspect
import unittest

from samples import FLAT, KITE
from owedround.owe.debts import Debts
from owedround.use.bench import Bench

# What each module lists: the functions and classes with their parameters, and the constants.
MODULES = {
    "base.words": """
        is_integer(value) is_count(value) is_name(value) are_names(value) is_naming(names, value)
        is_fraction(value) fraction(top, bottom) part_of_one(fraction)""",
    "base.webs": "Web(places, ties) full_web(places) ring_web(ring)",
    "base.rings": "is_ring(web, value) turned_least(ring) ring_ties(ring) each_ring(web)",
    "base.tables": """
        Table(web, rounds) is_table(web, value) count_tables(web) each_table(web) sides_of(table, ring)
        ties_within_sides(table, ring)""",
    "owe.debts": """
        Debts(web, amounts) is_plan(web, value) plain_plan(web, plan) joined_plans(web, *plans)
        are_alike(one, other) plan_between(one, other)""",
    "owe.burning": """
        reduced(debts, place) is_reduced(debts, place) plan_to_reduced(debts, place) can_be_free(debts)
        lending_set(debts, place) burning_order(debts, place) is_burning_order(debts, place, value)
        each_reduced(web, place, total)""",
    "tree.joining": """
        is_joining_tree(web, value) count_trees(web) each_tree(web) way_in(web, tree, a, b)
        ring_closed(web, tree, tie) cut_closed(web, tree, tie) side_of(web, tree, tie, place)
        exchanged(web, tree, out, new) hands_of(web, tree, home) is_hands(web, home, value)
        tree_of_hands(web, home, hands)""",
    "owe.classes": "order_of(debts) heights_of(debts) pairing(one, other) each_class(web)",
    "lean.leanings": """
        is_leaning(web, value) debts_of(web, leaning) opposite(web, leaning) sources(web, leaning)
        is_led(web, leaning, place) is_ringless(web, leaning) ring_of(web, leaning) leaning_order(web, leaning)
        is_leaning_order(web, leaning, value) leaning_with(debts) crowded(debts) is_crowded(debts, value)
        is_turn(web, leaning, value) turned(web, leaning, turn)""",
    "lean.ways": """
        leaning_alike(debts) led_leaning(debts, place) way_between(web, one, other) is_way(web, one, other, value)
        choice_of(web, leaning)""",
    "lean.broken": """
        is_broken(debts) breaking(debts) is_breaking(debts, value) lacking(debts) is_lacking(debts, value)
        broken_alike(debts) each_broken(web) broken_leaning(debts, place)""",
    "turn.hands": """
        walk(table, home, tree, place) walked(table, home, tree, place) walked_back(table, home, tree, place)
        sent(table, home, tree, *places) acted(table, home, tree, debts) turns_made(table, home, tree, debts)
        leading(table, home, one, other) walks_back(table, home, tree, place)""",
    "turn.rides": """
        is_ride(table, value) loop_of(table, ride) stepped(table, ride, *, many=1) stepped_back(table, ride, *, many=1)
        ride_at(table, tree, place, neighbour) tree_of_ride(table, ride) round_of(table, ride)
        same_round(table, one, other) count_rounds(web) ride_class(table, ride) turning_debts(table, ring)
        steps_to_turn(table, ride) turned_ride(table, ride)""",
    "turn.tours": """
        tour(table, tree, place, neighbour) first_met(table, tree, place, neighbour)
        broken_by(table, tree, place, neighbour) tree_by(table, debts, place, neighbour)
        toured(table, home, tree, debts)""",
    "turn.least": """
        tour_leaning(table, tree, place, neighbour) tree_by_leaning(table, leaning, place, neighbour)
        is_tour_leaning(table, place, neighbour, value) is_right_ring(table, rim, leaning, value)
        right_ring(table, rim, leaning) is_least(table, rim, leaning) least_of(table, rim, leaning)
        way_to_least(table, rim, leaning) is_way_to_least(table, rim, leaning, value) each_least(table, rim, place)""",
    "turn.busy": """
        outer_busy(table, tree, place, neighbour) inner_busy(table, tree, place, neighbour)
        busy_counts(table, place, neighbour) told_at(counts, x, y) levels(web, place)""",
    "dual.duals": """
        rim_names(table) dual_of(table) dual_ties(table) names_back(table) rest_of(table, tree)
        dual_debts(table, debts) dual_leaning(table, leaning)""",
    "flat.papers": """
        difference_of(table) is_difference(table, value) disagreement_of(table) is_disagreement(table, value)
        unturned_ring(table) is_unturned_ring(table, value)""",
    "use.bench": "is_pledge(value) Bench(table, home, debts, tree)",
}
CONSTANTS = {
    "base.words": {"MAX_LETTERS": 8, "MAX_FIGURES": 60}, "base.webs": {"MAX_PLACES": 9, "MAX_TIES": 18},
    "dual.duals": {"MAX_RIMS": 9}, "flat.papers": {"MAX_TREES": 1000}, "use.bench": {"MAX_PLEDGES": 10},
}
GENERATORS = ("each_ring", "each_table", "each_reduced", "each_tree", "each_class", "each_broken", "each_least")
TREE = (("a", "b"), ("a", "c"), ("b", "d"))
# An object of each class, its class methods, properties, methods and operators.
CLASSES = (
    (KITE, "from_lines(*lines) of_ties(*ties)", "places ties lines spare bridges", """
        neighbours(place) ties_at(place) is_tied(a, b) hangs(places) ties_within(places) ties_across(places)
        with_tie(a, b) without_tie(a, b) with_place(name, neighbour) renamed(names)""",
     "init contains len iter eq str"),
    (FLAT, "from_lines(*lines) plain(web)", "web rounds rims lack is_drawing lines mirror", """
        round_at(place) behind(place, neighbour) ahead(place, neighbour) rim_along(place, neighbour)
        with_round(place, row) with_tie(a, x, b, y) without_tie(a, b) renamed(names)""",
     "init contains len iter eq str"),
    (Debts.none(KITE), "none(web) at(web, *places) from_lines(web, *lines)",
     "web amounts total owing is_free lines", """
        lent(place, *, many=1) lent_together(places) moved(giver, taker, *, many=1) after(plan) renamed(names)""",
     "init contains len iter eq str getitem add sub neg mul rmul"),
    (Bench(FLAT, "a", Debts.none(KITE), TREE), "",
     "table web home debts tree lines account pledges changes", """
        lend(place, *, many=1) give(place, *, many=1) walk(place) settle() move(home) redraw(rounds)
        tie(a, x, b, y) strike(a, b) rename(names) demand(pledge) waive(pledge) undo(*, many=1)
        redo(*, many=1) trial() during(call) twin()""",
     "init contains len iter eq str"),
)


def split(text):
    """The pairs of a name and its parameters, with their parentheses."""
    told = " ".join(text.split()).replace(") ", ")\n").split("\n") if text else []
    return [(one[:one.index("(")], one[one.index("("):]) for one in told]


class Interface(unittest.TestCase):
    def module(self, name):
        return importlib.import_module("owedround." + name)

    def test_functions_and_classes(self):
        for module, text in MODULES.items():
            for name, told in split(text):
                made = vars(self.module(module))[name]
                self.assertEqual(made.__module__, "owedround." + module, name)
                self.assertEqual(str(inspect.signature(made)), told, name)
                self.assertEqual(inspect.isclass(made), name[0].isupper())
                self.assertEqual(inspect.isgeneratorfunction(made), name in GENERATORS)

    def test_constants(self):
        for module, told in CONSTANTS.items():
            for name, value in told.items():
                self.assertEqual(vars(self.module(module))[name], value)

    def test_class_methods(self):
        for one, class_methods, _, _, _ in CLASSES:
            for name, told in split(class_methods):
                self.assertIsInstance(vars(one.__class__)[name], classmethod)
                self.assertEqual(str(inspect.signature(getattr(one.__class__, name))), told, name)

    def test_properties(self):
        for one, _, properties, _, _ in CLASSES:
            for name in properties.split():
                self.assertIsInstance(vars(one.__class__)[name], property)
                getattr(one, name)

    def test_methods(self):
        for one, _, _, methods, _ in CLASSES:
            for name, told in split(methods):
                self.assertTrue(inspect.isfunction(vars(one.__class__)[name]), name)
                self.assertEqual(str(inspect.signature(getattr(one, name))), told, name)

    def test_operators(self):
        for one, _, _, _, operators in CLASSES:
            for name in operators.split():
                self.assertIn("__" + name + "__", vars(one.__class__))


if __name__ == "__main__":
    unittest.main()
