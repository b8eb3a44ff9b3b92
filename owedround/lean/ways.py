"""Ways from one leaning to others whose debts are alike."""

from owedround.base.rings import ring_ties
from owedround.base.webs import need_place
from owedround.lean.leanings import begun, debts_of, is_turn, leaning_by, need_leaning, ring_of, steps_along
from owedround.lean.leanings import steps_turned, trails_from, turn_step, turn_trail, turned, wanted_by
from owedround.owe.burning import reduced
from owedround.owe.debts import need_debts, need_total, plan_between


def leaning_alike(debts):
    """Any leaning whose debts are alike to these."""
    _need_total_of_leanings(debts)
    return leaning_by(debts.web, _steps_alike(debts))


def led_leaning(debts, place):
    """Any leaning whose debts are alike to these, and that is led from the place."""
    _need_total_of_leanings(debts)
    need_place(debts.web, place)
    return leaning_by(debts.web, led_steps_alike(debts, place))


def led_steps_alike(debts, place):
    """The steps along such a leaning."""
    steps = _steps_alike(debts)
    _lead_by_cuts(steps, place)
    return steps


def way_between(web, one, other):
    """Any way from the one leaning to the other one, None if there is none."""
    need_leaning(web, one)
    need_leaning(web, other)
    plan = plan_between(debts_of(web, one), debts_of(web, other))
    if plan is None:
        return None
    cuts = tuple([_at_least(plan, many) for many in range(max(list(plan.values())), 0, -1)])
    leaning = one
    for places in cuts:
        leaning = turned(web, leaning, ("cut", places))
    return (cuts, _rings_between(web, leaning, other))


def is_way(web, one, other, value):
    """Whether the value is a way from the one leaning to the other one."""
    need_leaning(web, one)
    need_leaning(web, other)
    if not isinstance(value, tuple) or len(value) != 2 or not all([isinstance(part, tuple) for part in value]):
        return False
    cuts, rings = value
    leaning = one
    for turn in [("cut", places) for places in cuts] + [("ring", ring) for ring in rings]:
        if not is_turn(web, leaning, turn):
            return False
        leaning = turned(web, leaning, turn)
    return leaning == other and _are_nested(cuts) and _are_apart(rings)


def choice_of(web, leaning):
    """The pair of "ringless" or "leaned" and any such leaning with alike debts."""
    ring = ring_of(web, leaning)
    steps = steps_along(web, leaning)
    if ring is not None:
        # No cut turns a tie of the ring: so one comes to each place, those of the ring among them.
        _lead_by_cuts(steps, ring[0])
    # What is returned is never the very dict that was passed.
    return ("ringless" if ring is None else "leaned", leaning_by(web, steps))


def ring_along(leaning, ties):
    """A ring that is walked along the leaning, of ties of which as many lean to each place as from it."""
    way = []
    place = ties[0][0]
    while place not in way:
        way.append(place)
        place = [leaning[tie] for tie in ties if place in tie and leaning[tie] != place][0]
    return tuple(way[way.index(place):])


def _need_total_of_leanings(debts):
    """Refuses what are no debts with the total of the debts of leanings."""
    need_debts(debts)
    need_total(debts, debts.web.spare - 1)


def _steps_alike(debts):
    """The steps along any leaning whose debts are alike to these."""
    web = debts.web
    # Turned cuts make the debts of the leaning and the wanted ones alike to what they were, in the
    # same way: so they leave the gap between them as it is.
    back, left = begun(web, wanted_by(reduced(debts, web.places[0])))
    full = [place for place in web.places if left[place] < 0]
    while full:
        short = [place for place in web.places if left[place] > 0]
        turn_trail(back, _lead_by_cuts(back, full[0]), short[0])
        left[full[0]] += 1
        left[short[0]] -= 1
        full = [place for place in web.places if left[place] < 0]
    return steps_turned(back)


def _lead_by_cuts(steps, place):
    """Turns cuts until one comes by steps from the place to each other one, and returns these trails."""
    before = trails_from(steps, place)
    while len(before) < len(steps):
        # All steps between these places and others lead to these: so behind the turn one comes to some more.
        across = [(a, b) for a in steps if a not in before for b in steps[a] if b in before]
        for a, b in across:
            turn_step(steps, a, b)
        before = trails_from(steps, place)
    return before


def _at_least(plan, many):
    """The ascending tuple of the places that lend at least so many times."""
    return tuple([place for place in plan if plan[place] >= many])


def _rings_between(web, one, other):
    """The rings by which a leaning with the same debts becomes the other one."""
    left = [tie for tie in web.ties if one[tie] != other[tie]]
    rings = []
    while left:
        ring = ring_along(one, left)
        rings.append(ring)
        left = [tie for tie in left if tie not in ring_ties(ring)]
    return tuple(rings)


def _are_nested(sets):
    """Whether each set but the first one has all places of the one before it, and more."""
    pairs = list(zip(sets, sets[1:]))
    return all([len(one) < len(more) and all([place in more for place in one]) for one, more in pairs])


def _are_apart(rings):
    """Whether no two rings have a tie in common."""
    ties = [tie for ring in rings for tie in ring_ties(ring)]
    return len(set(ties)) == len(ties)
