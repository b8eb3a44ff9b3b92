"""Busy ties: those that a tour meets before all others of the ring, or the cut, that they close."""

from owedround.base.rings import ring_ties
from owedround.base.tables import need_table
from owedround.base.webs import MAX_TIES, need_place, need_tied, need_web
from owedround.base.words import is_count, is_integer
from owedround.errors import InvalidNumber, InvalidOperation
from owedround.lean.broken import MAX_TREES
from owedround.owe.burning import each_reduced
from owedround.tree.joining import cut_closed, each_tree, need_few_trees, ring_closed
from owedround.turn.tours import first_met


def outer_busy(table, tree, place, neighbour):
    """The ascending tuple of the ties off the tree that are met before all others of their rings."""
    met = list(first_met(table, tree, place, neighbour))
    web = table.web
    off = [tie for tie in web.ties if tie not in tree]
    return tuple([tie for tie in off if _met_first(met, ring_ties(ring_closed(web, tree, tie))) == tie])


def inner_busy(table, tree, place, neighbour):
    """The ascending tuple of the ties of the tree that are met before all others of their cuts."""
    met = list(first_met(table, tree, place, neighbour))
    return tuple([tie for tie in tree if _met_first(met, cut_closed(table.web, tree, tie)) == tie])


def busy_counts(table, place, neighbour):
    """The dict from the pairs of numbers of inner and of outer busy ties to how many trees have them."""
    need_table(table)
    web = table.web
    need_tied(web, place, neighbour)
    need_few_trees(web, MAX_TREES)
    pairs = []
    for tree in each_tree(web):
        inner = inner_busy(table, tree, place, neighbour)
        outer = outer_busy(table, tree, place, neighbour)
        pairs.append((len(inner), len(outer)))
    return {pair: pairs.count(pair) for pair in sorted(set(pairs))}


def told_at(counts, x, y):
    """The sum of each number times x to the power of the inner and y to that of the outer one."""
    if not _are_counts(counts):
        raise InvalidOperation("this is no dict from pairs of numbers of ties to how many trees have them")
    for number in (x, y):
        if not is_integer(number):
            raise InvalidNumber(number)
    return sum([many * _power(x, inner) * _power(y, outer) for (inner, outer), many in counts.items()])


def levels(web, place):
    """The numbers of reduced debts of total 0 by the sums of the integers of all places but one."""
    need_web(web)
    need_place(web, place)
    need_few_trees(web, MAX_TREES)
    sums = [-debts[place] for debts in each_reduced(web, place, 0)]
    return tuple([sums.count(many) for many in range(web.spare + 1)])


def _met_first(met, ties):
    """The first one of all ties, as they are met, that is among these."""
    return [tie for tie in met if tie in ties][0]


def _are_counts(value):
    """Whether the value is a dict from pairs of numbers of ties to integers of at least 1."""
    if not isinstance(value, dict) or not all([_is_pair(key) for key in value]):
        return False
    return all([is_count(many) and many >= 1 for many in value.values()])


def _is_pair(value):
    """Whether the value is a pair of numbers of ties."""
    if not isinstance(value, tuple) or len(value) != 2:
        return False
    return all([is_count(number) and number <= MAX_TIES for number in value])


def _power(number, many):
    """The number to the power of a count."""
    power = 1
    for _ in range(many):
        power = power * number
    return power
