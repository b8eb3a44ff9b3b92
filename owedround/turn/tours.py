"""Tours round joining trees, and the broken debts that they make of them."""

from owedround.base.tables import need_table, next_in
from owedround.base.webs import need_place, need_tied, tie_of
from owedround.lean.broken import need_led_steps
from owedround.lean.leanings import trails_from, turn_step, turn_trail
from owedround.lean.ways import led_steps_alike
from owedround.owe.debts import Debts, are_alike, need_debts, need_equal_webs, need_total
from owedround.tree.joining import need_tree


def tour(table, tree, place, neighbour):
    """The tuple of the pairs of a place and a neighbour to which one comes round the tree."""
    need_table(table)
    need_tree(table.web, tree)
    need_tied(table.web, place, neighbour)
    rounds = table.rounds
    pairs = [(place, neighbour)]
    pair = _pair_behind(rounds, place, neighbour, tie_of(place, neighbour) in tree)
    while pair != pairs[0]:
        pairs.append(pair)
        here, other = pair
        pair = _pair_behind(rounds, here, other, tie_of(here, other) in tree)
    return tuple(pairs)


def first_met(table, tree, place, neighbour):
    """The dict from the ties, as they are met first, to the places at which they are met first."""
    met = {}
    for here, other in tour(table, tree, place, neighbour):
        met.setdefault(tie_of(here, other), here)
    return met


def broken_by(table, tree, place, neighbour):
    """The debts in which each tie off the tree gives one to the place at which it is met first."""
    met = first_met(table, tree, place, neighbour)
    web = table.web
    takers = [met[tie] for tie in met if tie not in tree]
    return Debts.at(web, *takers)


def tree_by(table, debts, place, neighbour):
    """The joining tree of which the tour from there makes these debts."""
    need_table(table)
    need_debts(debts)
    need_equal_webs(table.web, debts.web)
    need_tied(table.web, place, neighbour)
    return _tree_round(table, need_led_steps(debts, place), place, neighbour)


def toured(table, home, tree, debts):
    """The joining tree to which the debts lead by going round from the home."""
    need_table(table)
    need_place(table.web, home)
    need_tree(table.web, tree)
    need_debts(debts)
    need_equal_webs(table.web, debts.web)
    need_total(debts, 0)
    neighbour = table.web.neighbours(home)[0]
    wanted = broken_by(table, tree, home, neighbour) + debts - Debts.at(table.web, home)
    return _tree_round(table, led_steps_alike(wanted, home), home, neighbour)


def leads_round(table, home, tree, debts, other):
    """Whether debts of total 0 lead the tree to the other one by going round from the home."""
    # This takes less than to look for the tree to which they lead.
    neighbour = table.web.neighbours(home)[0]
    wanted = broken_by(table, tree, home, neighbour) + debts
    return are_alike(broken_by(table, other, home, neighbour), wanted)


def _pair_behind(rounds, place, neighbour, joins):
    """The pair that comes behind another one, whose tie is one of the tree, or is not."""
    if joins:
        return (neighbour, next_in(rounds[neighbour], place))
    return (place, next_in(rounds[place], neighbour))


def _tree_round(table, steps, place, neighbour):
    """The joining tree whose broken debts, made from there, are those of a leaning with one more at the place.

    The leaning is led from the place; the steps are those along it, and are changed on the way.
    """
    rounds = table.rounds
    joins = {}
    here, other = place, neighbour
    # At each pair the steps are those of the web without the ties that were found to be off the tree.
    # They come from here to each place, and their leaning has the debts that these ties left, less
    # one here. Such debts are broken [9.4].
    for _ in range(2 * len(table.web.ties)):
        tie = tie_of(here, other)
        if tie not in joins:
            joins[tie] = not _leaves_out(steps, here, other)
        if joins[tie]:
            # It leans from here: it is on no ring when it is met first, and when it is met again, no
            # other tie between the places on its two sides is left. So now one comes from its other end.
            turn_step(steps, here, other)
        here, other = _pair_behind(rounds, here, other, joins[tie])
    return tuple([tie for tie in table.web.ties if joins[tie]])


def _leaves_out(steps, here, other):
    """Leaves a tie that is met first at a place out of the steps, if it is off the tree; whether it is.

    It is off the tree if the debts stay broken when it is taken away with the one that it gave to this
    place; otherwise the other ties of the cut that it closes give one to the far side, and the near side
    would lack. They stay broken exactly if the tie leans to this place in some leaning with the same
    debts, as one comes to each place without it then. Such leanings differ by turned rings only.
    """
    before = trails_from(steps, other)
    if here not in before:
        return False
    # This trail is the tie itself, or makes a ring with it. Without the tie both turns are the same.
    turn_trail(steps, before, here)
    steps[here].remove(other)
    return True
