"""Ways from one leaning to others whose debts are alike."""

from owedround.base.rings import ring_ties
from owedround.base.webs import need_place
from owedround.lean.leanings import debts_of, is_turn, need_leaning, opposite, ring_of
from owedround.lean.leanings import trail_ties, trails_from, turned, turned_over
from owedround.owe.burning import reduced
from owedround.owe.debts import need_debts, need_total, plan_between


def leaning_alike(debts):
    """Any leaning whose debts are alike to these."""
    _need_total_of_leanings(debts)
    web = debts.web
    back = {tie: tie[0] for tie in web.ties}
    many = debts_of(web, opposite(web, back)) - reduced(debts, web.places[0])
    # The debts of the leaning are more than the wanted ones by these numbers. Turned cuts do not
    # change this: they change the wanted debts, too, into alike ones.
    while many.owing:
        full, short = (-many).owing[0], many.owing[0]
        back = _led_by_cuts(web, back, full)
        back = turned_over(web, back, trail_ties(trails_from(web, back, full), short))
        many = many.moved(full, short)
    return opposite(web, back)


def led_leaning(debts, place):
    """Any leaning whose debts are alike to these, and that is led from the place."""
    _need_total_of_leanings(debts)
    need_place(debts.web, place)
    return _led_by_cuts(debts.web, leaning_alike(debts), place)


def way_between(web, one, other):
    """Any way from the one leaning to the other one, None if there is none."""
    need_leaning(web, one)
    need_leaning(web, other)
    plan = plan_between(debts_of(web, one), debts_of(web, other))
    if plan is None:
        return None
    cuts = tuple([_at_least(plan, many) for many in range(max(list(plan.values())), 0, -1)])
    leaning = one
    for places in cuts:
        leaning = turned(web, leaning, ("cut", places))
    return (cuts, _rings_between(web, leaning, other))


def is_way(web, one, other, value):
    """Whether the value is a way from the one leaning to the other one."""
    need_leaning(web, one)
    need_leaning(web, other)
    if not isinstance(value, tuple) or len(value) != 2 or not all([isinstance(part, tuple) for part in value]):
        return False
    cuts, rings = value
    leaning = one
    for turn in [("cut", places) for places in cuts] + [("ring", ring) for ring in rings]:
        if not is_turn(web, leaning, turn):
            return False
        leaning = turned(web, leaning, turn)
    return leaning == other and _are_nested(cuts) and _are_apart(rings)


def choice_of(web, leaning):
    """The pair of "ringless" or "leaned" and any such leaning with alike debts."""
    ring = ring_of(web, leaning)
    # What is returned is never the very dict that was passed.
    own = turned_over(web, leaning, ())
    if ring is None:
        return ("ringless", own)
    # No cut turns a tie of the ring: so one comes to each place, those of the ring among them.
    return ("leaned", _led_by_cuts(web, own, ring[0]))


def ring_along(leaning, ties):
    """A ring that is walked along the leaning, of ties of which as many lean to each place as from it."""
    way = []
    place = ties[0][0]
    while place not in way:
        way.append(place)
        place = [leaning[tie] for tie in ties if place in tie and leaning[tie] != place][0]
    return tuple(way[way.index(place):])


def _need_total_of_leanings(debts):
    """Refuses what are no debts with the total of the debts of leanings."""
    need_debts(debts)
    need_total(debts, debts.web.spare - 1)


def _led_by_cuts(web, leaning, place):
    """The leaning that is led from the place to which turned cuts lead."""
    reached = sorted(trails_from(web, leaning, place))
    while len(reached) < len(web.places):
        # All ties to other places lean into these ones: so behind the turn one comes to some more.
        leaning = turned_over(web, leaning, web.ties_across(tuple(reached)))
        reached = sorted(trails_from(web, leaning, place))
    return leaning


def _at_least(plan, many):
    """The ascending tuple of the places that lend at least so many times."""
    return tuple([place for place in plan if plan[place] >= many])


def _rings_between(web, one, other):
    """The rings by which a leaning with the same debts becomes the other one."""
    left = [tie for tie in web.ties if one[tie] != other[tie]]
    rings = []
    while left:
        ring = ring_along(one, left)
        rings.append(ring)
        left = [tie for tie in left if tie not in ring_ties(ring)]
    return tuple(rings)


def _are_nested(sets):
    """Whether each set but the first one has all places of the one before it, and more."""
    pairs = list(zip(sets, sets[1:]))
    return all([len(one) < len(more) and all([place in more for place in one]) for one, more in pairs])


def _are_apart(rings):
    """Whether no two rings have a tie in common."""
    ties = [tie for ring in rings for tie in ring_ties(ring)]
    return len(set(ties)) == len(ties)
