"""Leanings: each tie of a web leans to one of its two places."""

from owedround.base.rings import is_ring, ring_ties
from owedround.base.webs import is_place_set, need_place, need_web, steps_round, tie_of
from owedround.base.words import has_just_keys
from owedround.errors import InvalidLeaning, InvalidTurn
from owedround.owe.debts import Debts, need_debts


def is_leaning(web, value):
    """Whether the value is a leaning of the web."""
    need_web(web)
    return has_just_keys(value, web.ties) and all([value[tie] in tie for tie in web.ties])


def debts_of(web, leaning):
    """The debts in which each place has the number of the ties that lean to it, less 1."""
    need_leaning(web, leaning)
    ends = list(leaning.values())
    return Debts(web, {place: ends.count(place) - 1 for place in web.places})


def opposite(web, leaning):
    """The leaning in which each tie leans to its other place."""
    need_leaning(web, leaning)
    return turned_over(web, leaning, web.ties)


def sources(web, leaning):
    """The ascending tuple of the places to which no tie leans."""
    need_leaning(web, leaning)
    ends = list(leaning.values())
    return tuple([place for place in web.places if place not in ends])


def is_led(web, leaning, place):
    """Whether one comes along the leaning from the place to each other one."""
    need_leaning(web, leaning)
    need_place(web, place)
    return len(trails_from(steps_along(web, leaning), place)) == len(web.places)


def is_ringless(web, leaning):
    """Whether no ring is walked along the leaning."""
    return leaning_order(web, leaning) is not None


def ring_of(web, leaning):
    """Any ring that is walked along the leaning, None if there is none."""
    need_leaning(web, leaning)
    order = _order(web, leaning)
    rest = [place for place in web.places if place not in order]
    if not rest:
        return None
    # To each place of the rest leans a tie from another one of them: so who walks backward comes round.
    way = []
    place = rest[0]
    while place not in way:
        way.append(place)
        place = [other for other in _before(web, leaning, place) if other in rest][0]
    return tuple(way[way.index(place):][::-1])


def leaning_order(web, leaning):
    """Any leaning order, None if there is none."""
    need_leaning(web, leaning)
    order = _order(web, leaning)
    return order if len(order) == len(web.places) else None


def is_leaning_order(web, leaning, value):
    """Whether the value is a leaning order."""
    need_leaning(web, leaning)
    if not isinstance(value, tuple) or len(value) != len(web.places):
        return False
    if not all([place in value for place in web.places]):
        return False
    return all([value[max(value.index(a), value.index(b))] == leaning[(a, b)] for a, b in web.ties])


def leaning_with(debts):
    """Any leaning with these debts, None if there is none."""
    need_debts(debts)
    back, _ = fitted(debts.web, wanted_by(debts))
    if back is None or debts.total != debts.web.spare - 1:
        return None
    return leaning_by(debts.web, steps_turned(back))


def crowded(debts):
    """Any crowded set of the debts, one that hangs together; None if there is none."""
    need_debts(debts)
    _, places = fitted(debts.web, wanted_by(debts))
    return places


def is_crowded(debts, value):
    """Whether the value is a crowded set of the debts."""
    need_debts(debts)
    if not is_place_set(debts.web, value) or not value:
        return False
    return len(debts.web.ties_within(value)) > sum([debts[place] for place in value]) + len(value)


def is_turn(web, leaning, value):
    """Whether the value is a turn of the leaning."""
    need_leaning(web, leaning)
    if not isinstance(value, tuple) or len(value) != 2:
        return False
    kind, places = value
    if kind == "ring":
        return is_ring(web, places) and all([leaning[tie_of(a, b)] == b for a, b in steps_round(places)])
    return kind == "cut" and _is_cut(web, leaning, places)


def turned(web, leaning, turn):
    """The leaning behind a turn."""
    if not is_turn(web, leaning, turn):
        raise InvalidTurn("this is no turn of the leaning")
    kind, places = turn
    ties = ring_ties(places) if kind == "ring" else web.ties_across(places)
    return turned_over(web, leaning, ties)


def need_leaning(web, leaning):
    """Refuses what is no leaning of the web."""
    if not is_leaning(web, leaning):
        raise InvalidLeaning("this is no leaning of the web")


def turned_over(web, leaning, ties):
    """The leaning in which these ties lean to their other places."""
    return {tie: _other_end(tie, leaning[tie]) if tie in ties else leaning[tie] for tie in web.ties}


def steps_along(web, leaning):
    """The dict from the places to the lists of the places to which ties lean from them."""
    steps = {place: [] for place in web.places}
    for tie in web.ties:
        steps[_other_end(tie, leaning[tie])].append(leaning[tie])
    return steps


def steps_turned(steps):
    """The steps of the opposite leaning."""
    turned_steps = {place: [] for place in steps}
    for place in steps:
        for other in steps[place]:
            turned_steps[other].append(place)
    return turned_steps


def leaning_by(web, steps):
    """The leaning with these steps."""
    return {(a, b): b if b in steps[a] else a for a, b in web.ties}


def trails_from(steps, place):
    """The dict from the places to which one comes by steps to the places before them.

    The place from which one goes is among them, with None.
    """
    before = {place: None}
    todo = [place]
    while todo:
        here = todo.pop()
        for other in steps[here]:
            if other not in before:
                before[other] = here
                todo.append(other)
    return before


def turn_step(steps, place, other):
    """Lets a step from a place to another one lead back."""
    steps[place].remove(other)
    steps[other].append(place)


def turn_trail(steps, before, place):
    """Lets the steps by which one comes to a place, by the dict of the places before, lead back."""
    here = place
    while before[here] is not None:
        turn_step(steps, before[here], here)
        here = before[here]


def begun(web, wanted):
    """The steps back along a leaning, and how many more ties are wanted to lean to each place.

    Each tie leans to that end that wants more when its turn comes: so little is left to be done.
    """
    left = {place: wanted[place] for place in web.places}
    back = {place: [] for place in web.places}
    for a, b in web.ties:
        end, other = (a, b) if left[a] >= left[b] else (b, a)
        back[end].append(other)
        left[end] -= 1
    return (back, left)


def fitted(web, wanted):
    """The steps back along a leaning in which not more ties lean to any place than wanted, or else a crowded set.

    The other one of the pair is None. A set is crowded if there are more ties between its places than
    these want together.
    """
    back, left = begun(web, wanted)
    full = [place for place in web.places if left[place] < 0]
    while full:
        before = trails_from(back, full[0])
        short = [place for place in web.places if left[place] > 0 and place in before]
        if not short:
            # No tie leans to these places from others, and still too many lean to them. They hang
            # together, as one comes from each one to the first one along ties.
            return (None, tuple(sorted(before)))
        turn_trail(back, before, short[0])
        left[full[0]] += 1
        left[short[0]] -= 1
        full = [place for place in web.places if left[place] < 0]
    return (back, None)


def wanted_by(debts):
    """How many ties lean to each place in a leaning with these debts."""
    return {place: number + 1 for place, number in debts}


def _other_end(tie, place):
    """The other place of a tie."""
    a, b = tie
    return b if place == a else a


def _before(web, leaning, place):
    """The neighbours from which ties lean to the place."""
    return [other for other in web.neighbours(place) if leaning[tie_of(place, other)] == place]


def _order(web, leaning):
    """The places but those of rings, and those behind rings, each one behind all from which ties lean to it."""
    order = ()
    more = sources(web, leaning)
    while more:
        order = order + more
        rest = [place for place in web.places if place not in order]
        more = tuple([place for place in rest if all([other in order for other in _before(web, leaning, place)])])
    return order


def _is_cut(web, leaning, value):
    """Whether the value is the set of places of a cut that can be turned."""
    if not is_place_set(web, value) or not 1 <= len(value) < len(web.places):
        return False
    return all([leaning[tie] in value for tie in web.ties_across(value)])
