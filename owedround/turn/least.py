"""Tour leanings, and the leanings of a drawing that have no right ring."""

from owedround.base.rings import ring_ties
from owedround.base.tables import need_drawing, need_table, sides_of
from owedround.base.webs import need_place, need_tied, tie_of
from owedround.errors import InvalidOperation, InvalidRim
from owedround.lean.broken import MAX_TREES
from owedround.lean.leanings import debts_of, is_leaning, is_led, is_turn, need_leaning, turned_over
from owedround.lean.ways import ring_along
from owedround.owe.debts import Debts
from owedround.tree.joining import hands_of, need_few_trees
from owedround.turn.tours import first_met, tree_by


def tour_leaning(table, tree, place, neighbour):
    """The leaning of the ties of the tree away from the place, and of the others to where they are met first."""
    met = first_met(table, tree, place, neighbour)
    away = {tie_of(other, hand): other for other, hand in hands_of(table.web, tree, place).items()}
    return {tie: away.get(tie, met[tie]) for tie in table.web.ties}


def tree_by_leaning(table, leaning, place, neighbour):
    """The joining tree whose tour leaning from there has the debts of the leaning."""
    need_table(table)
    web = table.web
    need_leaning(web, leaning)
    need_tied(web, place, neighbour)
    if not is_led(web, leaning, place):
        raise InvalidOperation("this leaning is not led from the place")
    return tree_by(table, debts_of(web, leaning) + Debts.at(web, place), place, neighbour)


def is_tour_leaning(table, place, neighbour, value):
    """Whether the value is the tour leaning of some joining tree from there."""
    need_table(table)
    web = table.web
    need_tied(web, place, neighbour)
    if not is_leaning(web, value) or not is_led(web, value, place):
        return False
    tree = tree_by_leaning(table, value, place, neighbour)
    return tour_leaning(table, tree, place, neighbour) == value


def is_right_ring(table, rim, leaning, value):
    """Whether the value is a ring that runs along the leaning and has the rim on its first side."""
    _need_rim(table, rim)
    need_leaning(table.web, leaning)
    if not is_turn(table.web, leaning, ("ring", value)):
        return False
    first, _ = sides_of(table, value)
    return rim in first


def right_ring(table, rim, leaning):
    """Any right ring, None if there is none."""
    _need_rim(table, rim)
    need_leaning(table.web, leaning)
    # Who crosses each tie only from its right to its left, as it leans, never leaves the first side of
    # a ring that runs along the leaning. So if one comes from the rim to all rims, there is no right
    # ring. Otherwise the ties between the rims to which one comes and the others have the former ones
    # on their left. As many of these ties lean to each place as from it, so there are rings of them;
    # and all rims to which one comes are on the first side of each, as they hang together without them.
    ways = [_crossing(table, tie, end) for tie, end in leaning.items()]
    reached = _reached(ways, rim)
    if len(reached) == len(table):
        return None
    return ring_along(leaning, [tie for tie in table.web.ties if _is_between(table, tie, reached)])


def is_least(table, rim, leaning):
    """Whether the leaning has no right ring."""
    return right_ring(table, rim, leaning) is None


def least_of(table, rim, leaning):
    """The leaning with the same debts that has no right ring."""
    return _least_and_way(table, rim, leaning)[0]


def way_to_least(table, rim, leaning):
    """Any tuple of right rings that are turned one after the other, behind which there is none."""
    return _least_and_way(table, rim, leaning)[1]


def is_way_to_least(table, rim, leaning, value):
    """Whether the value is such a tuple of right rings."""
    _need_rim(table, rim)
    need_leaning(table.web, leaning)
    if not isinstance(value, tuple):
        return False
    here = leaning
    for ring in value:
        if not is_right_ring(table, rim, here, ring):
            return False
        here = turned_over(table.web, here, ring_ties(ring))
    return is_least(table, rim, here)


def each_least(table, rim, place):
    """All leanings that are led from the place and least for the rim, ascending by where the ties lean."""
    _need_rim(table, rim)
    need_place(table.web, place)
    need_few_trees(table.web, MAX_TREES)
    ties = table.web.ties
    # What stands last is taken first: so the greater ends are put ahead to come out ascending.
    todo = [()]
    while todo:
        ends = todo.pop()
        if len(ends) == len(ties):
            yield dict(zip(ties, ends))
        else:
            more = [ends + (end,) for end in ties[len(ends)][::-1]]
            todo.extend([longer for longer in more if _can_be_least(table, rim, place, longer)])


def _need_rim(table, rim):
    """Refuses what are not a drawing and a rim of it."""
    need_drawing(table)
    if rim not in table.rims:
        raise InvalidRim("this is no rim of the drawing")


def _crossing(table, tie, end):
    """The pair of the rims on the right and on the left of a tie that leans to an end."""
    a, b = tie if end == tie[1] else tie[::-1]
    return (table.rim_along(b, a), table.rim_along(a, b))


def _is_between(table, tie, rims):
    """Whether just one of the rims on both sides of a tie is among these."""
    one, other = _crossing(table, tie, tie[1])
    return (one in rims) != (other in rims)


def _reached(ways, start):
    """The list of what one reaches from a start by going from the first to the second one of pairs."""
    reached = [start]
    at = 0
    while at < len(reached):
        more = [there for here, there in ways if here == reached[at]]
        new = sorted({there for there in more if there not in reached})
        reached.extend(new)
        at += 1
    return reached


def _least_and_way(table, rim, leaning):
    """The pair of the least leaning with the same debts and the right rings that lead to it."""
    ring = right_ring(table, rim, leaning)
    here = turned_over(table.web, leaning, ())
    rings = []
    while ring is not None:
        rings.append(ring)
        here = turned_over(table.web, here, ring_ties(ring))
        ring = right_ring(table, rim, here)
    return (here, tuple(rings))


def _can_be_least(table, rim, place, ends):
    """Whether one comes to all places from the place, and to all rims from the rim, if ties lean to these ends.

    The other ties, which come behind, can be walked and crossed both ways. So a yes is sure only where
    there are none of them; but all that a wanted leaning begins with gets one.
    """
    ties = table.web.ties
    leans = list(zip(ties, ends)) + [(tie, end) for tie in ties[len(ends):] for end in tie]
    steps = [(a, b) if end == b else (b, a) for (a, b), end in leans]
    if len(_reached(steps, place)) < len(table.web.places):
        return False
    return len(_reached([_crossing(table, tie, end) for tie, end in leans], rim)) == len(table)
