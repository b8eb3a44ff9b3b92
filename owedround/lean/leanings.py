"""Leanings: each tie of a web leans to one of its two places."""

from owedround.base.rings import is_ring, ring_ties
from owedround.base.webs import is_place_set, need_place, need_web, steps_round, tie_of
from owedround.base.words import has_just_keys
from owedround.errors import InvalidLeaning, InvalidTurn
from owedround.owe.debts import Debts, need_debts


def is_leaning(web, value):
    """Whether the value is a leaning of the web."""
    need_web(web)
    return has_just_keys(value, web.ties) and all([value[tie] in tie for tie in web.ties])


def debts_of(web, leaning):
    """The debts in which each place has the number of the ties that lean to it, less 1."""
    need_leaning(web, leaning)
    ends = list(leaning.values())
    return Debts(web, {place: ends.count(place) - 1 for place in web.places})


def opposite(web, leaning):
    """The leaning in which each tie leans to its other place."""
    need_leaning(web, leaning)
    return turned_over(web, leaning, web.ties)


def sources(web, leaning):
    """The ascending tuple of the places to which no tie leans."""
    need_leaning(web, leaning)
    ends = list(leaning.values())
    return tuple([place for place in web.places if place not in ends])


def is_led(web, leaning, place):
    """Whether one comes along the leaning from the place to each other one."""
    need_leaning(web, leaning)
    need_place(web, place)
    return len(trails_from(web, leaning, place)) == len(web.places)


def is_ringless(web, leaning):
    """Whether no ring is walked along the leaning."""
    return leaning_order(web, leaning) is not None


def ring_of(web, leaning):
    """Any ring that is walked along the leaning, None if there is none."""
    need_leaning(web, leaning)
    order = _order(web, leaning)
    rest = [place for place in web.places if place not in order]
    if not rest:
        return None
    # To each place of the rest leans a tie from another one of them: so who walks backward comes round.
    way = []
    place = rest[0]
    while place not in way:
        way.append(place)
        place = [other for other in _before(web, leaning, place) if other in rest][0]
    return tuple(way[way.index(place):][::-1])


def leaning_order(web, leaning):
    """Any leaning order, None if there is none."""
    need_leaning(web, leaning)
    order = _order(web, leaning)
    return order if len(order) == len(web.places) else None


def is_leaning_order(web, leaning, value):
    """Whether the value is a leaning order."""
    need_leaning(web, leaning)
    if not isinstance(value, tuple) or len(value) != len(web.places):
        return False
    if not all([place in value for place in web.places]):
        return False
    return all([value[max(value.index(a), value.index(b))] == leaning[(a, b)] for a, b in web.ties])


def leaning_with(debts):
    """Any leaning with these debts, None if there is none."""
    need_debts(debts)
    leaning, _ = _fitted(debts)
    return leaning if debts.total == debts.web.spare - 1 else None


def crowded(debts):
    """Any crowded set of the debts, one that hangs together; None if there is none."""
    need_debts(debts)
    _, places = _fitted(debts)
    return places


def is_crowded(debts, value):
    """Whether the value is a crowded set of the debts."""
    need_debts(debts)
    if not is_place_set(debts.web, value) or not value:
        return False
    return len(debts.web.ties_within(value)) > sum([debts[place] for place in value]) + len(value)


def is_turn(web, leaning, value):
    """Whether the value is a turn of the leaning."""
    need_leaning(web, leaning)
    if not isinstance(value, tuple) or len(value) != 2:
        return False
    kind, places = value
    if kind == "ring":
        return is_ring(web, places) and all([leaning[tie_of(a, b)] == b for a, b in steps_round(places)])
    return kind == "cut" and _is_cut(web, leaning, places)


def turned(web, leaning, turn):
    """The leaning behind a turn."""
    if not is_turn(web, leaning, turn):
        raise InvalidTurn("this is no turn of the leaning")
    kind, places = turn
    ties = ring_ties(places) if kind == "ring" else web.ties_across(places)
    return turned_over(web, leaning, ties)


def need_leaning(web, leaning):
    """Refuses what is no leaning of the web."""
    if not is_leaning(web, leaning):
        raise InvalidLeaning("this is no leaning of the web")


def turned_over(web, leaning, ties):
    """The leaning in which these ties lean to their other places."""
    return {tie: _other_end(tie, leaning[tie]) if tie in ties else leaning[tie] for tie in web.ties}


def trails_from(web, leaning, place):
    """The dict from the places to which one comes along the leaning to the places before them.

    The place from which one goes is among them, with None.
    """
    before = {place: None}
    todo = [place]
    while todo:
        here = todo.pop()
        for other in web.neighbours(here):
            if leaning[tie_of(here, other)] == other and other not in before:
                before[other] = here
                todo.append(other)
    return before


def trail_ties(before, place):
    """The ties along which one comes to a place, by the dict of the places before."""
    ties = []
    here = place
    while before[here] is not None:
        ties.append(tie_of(before[here], here))
        here = before[here]
    return ties


def _other_end(tie, place):
    """The other place of a tie."""
    a, b = tie
    return b if place == a else a


def _before(web, leaning, place):
    """The neighbours from which ties lean to the place."""
    return [other for other in web.neighbours(place) if leaning[tie_of(place, other)] == place]


def _order(web, leaning):
    """The places but those of rings, and those behind rings, each one behind all from which ties lean to it."""
    order = ()
    more = sources(web, leaning)
    while more:
        order = order + more
        rest = [place for place in web.places if place not in order]
        more = tuple([place for place in rest if all([other in order for other in _before(web, leaning, place)])])
    return order


def _is_cut(web, leaning, value):
    """Whether the value is the set of places of a cut that can be turned."""
    if not is_place_set(web, value) or not 1 <= len(value) < len(web.places):
        return False
    return all([leaning[tie] in value for tie in web.ties_across(value)])


def _fitted(debts):
    """A leaning in which not too many ties lean to any place, or else a crowded set.

    The other one of the pair is None. Too many are more than the place has, and one.
    """
    web = debts.web
    leaning = {tie: tie[0] for tie in web.ties}
    many = debts_of(web, leaning) - debts
    while (-many).owing:
        full = (-many).owing[0]
        before = trails_from(web, opposite(web, leaning), full)
        short = [place for place in many.owing if place in before]
        if not short:
            # No tie leans to these places from others, and still too many lean to them. They hang
            # together, as one comes to each one along ties from the first one.
            return (None, tuple(sorted(before)))
        leaning = turned_over(web, leaning, trail_ties(before, short[0]))
        many = many.moved(full, short[0])
    return (leaning, None)
