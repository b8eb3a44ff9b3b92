"""Joining trees: ways along them, rings and cuts that they close, and their hands."""

from owedround.base.rings import least_rotation
from owedround.base.solving import solved
from owedround.base.webs import ascends, need_place, need_web, reached_along, tie_of
from owedround.base.words import has_just_keys
from owedround.errors import InvalidOperation, InvalidTie, InvalidTree, TooMany


def is_joining_tree(web, value):
    """Whether the value is a joining tree of the web."""
    need_web(web)
    if not isinstance(value, tuple) or len(value) != len(web.places) - 1:
        return False
    if not all([tie in web.ties for tie in value]) or not ascends(value):
        return False
    return reached_along(value, web.places[0]) == web.places


def count_trees(web):
    """The number of joining trees."""
    need_web(web)
    _, many = solved(web, {place: 0 for place in web.places}, web.places[0])
    return many


def each_tree(web):
    """All joining trees, ascending."""
    need_web(web)
    # What stands last is taken first: so trees with a tie are told ahead of those without it.
    todo = [((), web.ties)]
    while todo:
        tree, rest = todo.pop()
        if len(tree) == len(web.places) - 1:
            yield tree
        else:
            a, b = rest[0]
            if reached_along(tree + rest[1:], web.places[0]) == web.places:
                todo.append((tree, rest[1:]))
            if b not in reached_along(tree, a):
                todo.append((tree + (rest[0],), rest[1:]))


def way_in(web, tree, a, b):
    """The tuple of the places on the way along the tree."""
    need_tree(web, tree)
    need_place(web, a)
    need_place(web, b)
    return _way(web, tree, a, b)


def ring_closed(web, tree, tie):
    """The ring that a tie off the tree closes, the lesser neighbour behind its least place."""
    need_tree(web, tree)
    _need_off(web, tree, tie)
    ring = _way(web, tree, tie[0], tie[1])
    return min(least_rotation(ring), least_rotation(ring[::-1]))


def cut_closed(web, tree, tie):
    """The ascending tuple of the ties of the cut that a tie of the tree closes."""
    need_tree(web, tree)
    _need_on(tree, tie)
    return web.ties_across(_side(tree, tie, tie[0]))


def side_of(web, tree, tie, place):
    """The ascending tuple of the places on the side of a place, without a tie of the tree."""
    need_tree(web, tree)
    _need_on(tree, tie)
    need_place(web, place)
    return _side(tree, tie, place)


def exchanged(web, tree, out, new):
    """The tree with a tie off it in the place of a tie of it."""
    need_tree(web, tree)
    _need_on(tree, out)
    _need_off(web, tree, new)
    changed = tuple(sorted([tie for tie in tree if tie != out] + [new]))
    if not is_joining_tree(web, changed):
        raise InvalidOperation("this is no joining tree")
    return changed


def hands_of(web, tree, home):
    """The dict from each other place to the neighbour to which the way home goes first."""
    need_tree(web, tree)
    need_place(web, home)
    return _hands(web, tree, home)


def is_hands(web, home, value):
    """Whether the value is the hands of a joining tree towards home."""
    need_web(web)
    need_place(web, home)
    others = [place for place in web.places if place != home]
    if not has_just_keys(value, others) or not all([value[place] in web.neighbours(place) for place in others]):
        return False
    return reached_along(_ties_of(value), home) == web.places


def tree_of_hands(web, home, hands):
    """The joining tree with these hands towards home."""
    if not is_hands(web, home, hands):
        raise InvalidTree("these are not the hands of a joining tree")
    return _ties_of(hands)


def need_tree(web, tree):
    """Refuses what is no joining tree of the web."""
    if not is_joining_tree(web, tree):
        raise InvalidTree("this is no joining tree of the web")


def need_few_trees(web, limit):
    """Refuses a web with more joining trees."""
    if count_trees(web) > limit:
        raise TooMany(limit)


def least_tree(web):
    """The least of all joining trees."""
    # Each tie that closes no ring with lesser ones is in it.
    tree = ()
    for a, b in web.ties:
        if b not in reached_along(tree, a):
            tree = tree + ((a, b),)
    return tree


def _need_on(tree, tie):
    """Refuses what is no tie of the tree."""
    if tie not in tree:
        raise InvalidTie("this is no tie of the tree")


def _need_off(web, tree, tie):
    """Refuses what is no tie of the web off the tree."""
    if tie not in web.ties or tie in tree:
        raise InvalidTie("this is no tie off the tree")


def _hands(web, tree, home):
    """The hands of the tree towards home, ascending."""
    hands = {}
    todo = [home]
    while todo:
        here = todo.pop()
        for other in web.neighbours(here):
            if tie_of(here, other) in tree and other != home and other not in hands:
                hands[other] = here
                todo.append(other)
    return {place: hands[place] for place in web.places if place != home}


def _way(web, tree, a, b):
    """The tuple of the places on the way along the tree."""
    hands = _hands(web, tree, b)
    way = [a]
    while way[-1] != b:
        way.append(hands[way[-1]])
    return tuple(way)


def _side(tree, tie, place):
    """The ascending tuple of the places to which one comes along the other ties of the tree."""
    return reached_along([other for other in tree if other != tie], place)


def _ties_of(hands):
    """The ascending tuple of the ties between places and where their hands point."""
    return tuple(sorted([tie_of(place, other) for place, other in hands.items()]))
