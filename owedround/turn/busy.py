"""Busy ties: those that a tour meets before all others of the ring, or the cut, that they close."""

from owedround.base.rings import ring_ties
from owedround.base.tables import need_table
from owedround.base.webs import MAX_TIES, need_place, need_tied, need_web
from owedround.base.words import is_count, is_integer
from owedround.errors import InvalidNumber, InvalidOperation
from owedround.lean.broken import MAX_TREES
from owedround.owe.burning import each_reduced
from owedround.tree.joining import cut_closed, need_few_trees, ring_closed
from owedround.turn.tours import first_met


def outer_busy(table, tree, place, neighbour):
    """The ascending tuple of the ties off the tree that are met before all others of their rings."""
    met = list(first_met(table, tree, place, neighbour))
    web = table.web
    off = [tie for tie in web.ties if tie not in tree]
    return tuple([tie for tie in off if _met_first(met, ring_ties(ring_closed(web, tree, tie))) == tie])


def inner_busy(table, tree, place, neighbour):
    """The ascending tuple of the ties of the tree that are met before all others of their cuts."""
    met = list(first_met(table, tree, place, neighbour))
    return tuple([tie for tie in tree if _met_first(met, cut_closed(table.web, tree, tie)) == tie])


def busy_counts(table, place, neighbour):
    """The dict from the pairs of numbers of inner and of outer busy ties to how many trees have them."""
    need_table(table)
    web = table.web
    need_tied(web, place, neighbour)
    need_few_trees(web, MAX_TREES)
    # The numbers belong to the web, whatever the table and the start are [14.2]. None of them is as great
    # as the base: so they are the digits of the sum [14.3] for two powers of the base.
    base = MAX_TREES + 1
    width = web.spare + 1
    digits = _digits(_sum_by_sets(web, _power(base, width), base), base)
    return {divmod(at, width): many for at, many in enumerate(digits) if many > 0}


def told_at(counts, x, y):
    """The sum of each number times x to the power of the inner and y to that of the outer one."""
    if not _are_counts(counts):
        raise InvalidOperation("this is no dict from pairs of numbers of ties to how many trees have them")
    for number in (x, y):
        if not is_integer(number):
            raise InvalidNumber(number)
    return sum([many * _power(x, inner) * _power(y, outer) for (inner, outer), many in counts.items()])


def levels(web, place):
    """The numbers of reduced debts of total 0 by the sums of the integers of all places but one."""
    need_web(web)
    need_place(web, place)
    need_few_trees(web, MAX_TREES)
    sums = [-debts[place] for debts in each_reduced(web, place, 0)]
    return tuple([sums.count(many) for many in range(web.spare + 1)])


def _met_first(met, ties):
    """The first one of all ties, as they are met, that is among these."""
    return [tie for tie in met if tie in ties][0]


def _sum_by_sets(web, x, y):
    """The sum [14.3] over the joining trees of a web for x and y."""
    # It is also one over all sets of ties: of x - 1 to the power of the pieces but one into which the places
    # fall, times y - 1 to the power of the ties that the set has more than its pieces need. In that one the
    # places can be left out from the last one on. A place without ties of the set is a piece of its own.
    # Each other one is drawn into the first place to which it has such ties; so its further ones are ties of
    # that place, with all choices of one or more of the k ties between both counting y ** 0 + .. + y ** (k - 1).
    choices = [0]
    for _ in web.ties:
        choices.append(choices[-1] * y + 1)
    sums = {_rows_of(web): 1}
    for _ in web.places[1:]:
        fewer = {}
        # Often the same ties are left between the places ahead, in whichever way: they go on together.
        for rows, number in sums.items():
            rest, last = rows[:-1], rows[-1]
            fewer[rest] = fewer.get(rest, 0) + (x - 1) * number
            for at, many in enumerate(last):
                if many > 0:
                    drawn = _drawn_into(rest, last, at)
                    fewer[drawn] = fewer.get(drawn, 0) + choices[many] * number
        sums = fewer
    # The first place is left, which has none ahead of it.
    return sums[((),)]


def _rows_of(web):
    """The tuple that has for each place the tuple of the numbers of its ties to the places ahead of it."""
    ties = web.ties
    places = web.places
    return tuple([tuple([1 if (a, b) in ties else 0 for a in places[:at]]) for at, b in enumerate(places)])


def _drawn_into(rows, last, at):
    """The rows of the places but the last one, whose ties to those behind a place are ties of that place now."""
    behind = at + 1
    later = [row[:at] + (row[at] + many,) + row[behind:] for row, many in zip(rows[behind:], last[behind:])]
    return rows[:behind] + tuple(later)


def _digits(number, base):
    """The list of the digits of a number, the lowest one first."""
    digits = []
    left = number
    while left > 0:
        left, digit = divmod(left, base)
        digits.append(digit)
    return digits


def _are_counts(value):
    """Whether the value is a dict from pairs of numbers of ties to integers of at least 1."""
    if not isinstance(value, dict) or not all([_is_pair(key) for key in value]):
        return False
    return all([is_count(many) and many >= 1 for many in value.values()])


def _is_pair(value):
    """Whether the value is a pair of numbers of ties."""
    if not isinstance(value, tuple) or len(value) != 2:
        return False
    return all([is_count(number) and number <= MAX_TIES for number in value])


def _power(number, many):
    """The number to the power of a count."""
    power = 1
    for _ in range(many):
        power = power * number
    return power
