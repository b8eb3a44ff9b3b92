"""Tours round joining trees, and the broken debts that they make of them."""

from owedround.base.tables import need_table
from owedround.base.webs import need_place, need_tied, reached_along, tie_of
from owedround.errors import InvalidOperation
from owedround.lean.broken import broken_alike, is_broken
from owedround.owe.debts import Debts, are_alike, need_debts, need_equal_webs, need_total
from owedround.tree.joining import need_tree


def tour(table, tree, place, neighbour):
    """The tuple of the pairs of a place and a neighbour to which one comes round the tree."""
    need_table(table)
    need_tree(table.web, tree)
    need_tied(table.web, place, neighbour)
    pairs = [(place, neighbour)]
    pair = _pair_behind(table, tree, pairs[0])
    while pair != pairs[0]:
        pairs.append(pair)
        pair = _pair_behind(table, tree, pair)
    return tuple(pairs)


def first_met(table, tree, place, neighbour):
    """The dict from the ties, as they are met first, to the places at which they are met first."""
    met = {}
    for here, other in tour(table, tree, place, neighbour):
        met.setdefault(tie_of(here, other), here)
    return met


def broken_by(table, tree, place, neighbour):
    """The debts in which each tie off the tree gives one to the place at which it is met first."""
    met = first_met(table, tree, place, neighbour)
    web = table.web
    takers = [met[tie] for tie in met if tie not in tree]
    return Debts.at(web, *takers)


def tree_by(table, debts, place, neighbour):
    """The joining tree of which the tour from there makes these debts."""
    need_table(table)
    need_debts(debts)
    need_equal_webs(table.web, debts.web)
    need_tied(table.web, place, neighbour)
    if not is_broken(debts):
        raise InvalidOperation("these debts are not broken")
    tree, left = (), debts
    pair = (place, neighbour)
    for _ in range(2 * len(table.web.ties)):
        tie = tie_of(pair[0], pair[1])
        # When a tie is met again, it is in the tree, or not in the web that is left any more.
        if tie in left.web.ties and tie not in tree:
            rest = _left_without(left, tie, pair[0])
            if rest is None:
                tree = tree + (tie,)
            else:
                left = rest
        pair = _pair_behind(table, tree, pair)
    return tuple(sorted(tree))


def toured(table, home, tree, debts):
    """The joining tree to which the debts lead by going round from the home."""
    need_table(table)
    need_place(table.web, home)
    need_tree(table.web, tree)
    need_debts(debts)
    need_equal_webs(table.web, debts.web)
    need_total(debts, 0)
    neighbour = table.web.neighbours(home)[0]
    told = broken_by(table, tree, home, neighbour)
    return tree_by(table, broken_alike(told + debts), home, neighbour)


def leads_round(table, home, tree, debts, other):
    """Whether debts of total 0 lead the tree to the other one by going round from the home."""
    # This takes much less than to look for the tree to which they lead.
    neighbour = table.web.neighbours(home)[0]
    wanted = broken_by(table, tree, home, neighbour) + debts
    return are_alike(broken_by(table, other, home, neighbour), wanted)


def _pair_behind(table, tree, pair):
    """The pair that comes behind another one."""
    place, neighbour = pair
    if tie_of(place, neighbour) in tree:
        return (neighbour, table.behind(neighbour, place))
    return (place, table.behind(place, neighbour))


def _left_without(debts, tie, place):
    """The broken debts of the web without a tie that gave one to the place, None if there are none.

    Let the tie, of a web from which all ties off the tree that were met before are taken, be met
    first at the place. If it is off the tree, there are such debts. If it is in the tree, the other
    ties across the cut that it closes give one to the far side: so the side of the place would have
    less than its spare number.
    """
    web = debts.web
    a, b = tie
    if reached_along([other for other in web.ties if other != tie], place) != web.places:
        return None
    amounts = {other: debts[other] - 1 if other == place else debts[other] for other in web.places}
    rest = Debts(web.without_tie(a, b), amounts)
    return rest if is_broken(rest) else None
