"""Rings of a web: walks that come back to where they begin."""

from owedround.base.webs import need_web, steps_round, tie_of
from owedround.base.words import are_names
from owedround.errors import InvalidRing


def is_ring(web, value):
    """Whether the value is a ring of the web, from any place on, in either direction."""
    need_web(web)
    return _is_round(value) and all([tie in web.ties for tie in ring_ties(value)])


def turned_least(ring):
    """The same ring in the same direction, from its least place on."""
    _need_round(ring)
    return least_rotation(ring)


def ring_ties(ring):
    """The ascending tuple of the ties between neighbours in a ring."""
    _need_round(ring)
    return tuple(sorted([tie_of(a, b) for a, b in steps_round(ring)]))


def each_ring(web):
    """All rings of the web, each from its least place on, in both directions, ascending."""
    need_web(web)
    # What stands last is taken first: so the ways are turned backward to come out ascending.
    ways = [(place,) for place in web.places[::-1]]
    while ways:
        way = ways.pop()
        near = web.neighbours(way[-1])
        if len(way) >= 3 and way[0] in near:
            yield way
        for place in near[::-1]:
            if place > way[0] and place not in way:
                ways.append(way + (place,))


def least_rotation(row):
    """The least one of the tuples that tell the same round from some item on."""
    return min([row[at:] + row[:at] for at in range(len(row))])


def _is_round(value):
    """Whether the value is a tuple of three or more different names."""
    return are_names(value) and len(value) >= 3 and len(set(value)) == len(value)


def _need_round(value):
    """Refuses what is no tuple of three or more different names."""
    if not _is_round(value):
        raise InvalidRing("this is no tuple of three or more different names")
