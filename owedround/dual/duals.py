"""Duals: the table whose places are the rims of a drawing, and what goes over to it."""

from owedround.base.rings import least_rotation
from owedround.base.tables import Table, need_drawing
from owedround.base.webs import Web, steps_round, tie_of
from owedround.errors import InvalidOperation, TooMany
from owedround.lean.leanings import need_leaning
from owedround.owe.burning import reduced
from owedround.owe.debts import made_debts, need_debts, need_equal_webs, need_total
from owedround.tree.joining import least_tree, need_tree, way_in

MAX_RIMS = 9
_LETTERS = "abcdefghi"


def rim_names(table):
    """The dict from the rim names to the rims, both ascending."""
    _need_dual(table)
    return {_name(table, rim): rim for rim in table.rims}


def dual_of(table):
    """The table whose places are the rim names."""
    rounds = {}
    for name, rim in rim_names(table).items():
        rounds[name] = least_rotation(tuple([_rim_along(table, b, a) for a, b in steps_round(rim)]))
    return Table(Web(tuple(rounds), tuple(sorted(dual_ties(table).values()))), rounds)


def dual_ties(table):
    """The dict from the ties to the ties of the dual."""
    _need_dual(table)
    return {(a, b): tie_of(_rim_along(table, a, b), _rim_along(table, b, a)) for a, b in table.web.ties}


def names_back(table):
    """The dict from the rim names of the dual to the places by which the dual of the dual is the table."""
    dual = dual_of(table)
    places = {_rim_round(table, place): place for place in table.web.places}
    return {name: places[rim] for name, rim in rim_names(dual).items()}


def rest_of(table, tree):
    """The joining tree of the dual whose ties are those of the ties off the tree."""
    _need_dual(table)
    need_tree(table.web, tree)
    return tuple(sorted([other for tie, other in dual_ties(table).items() if tie not in tree]))


def dual_debts(table, debts):
    """The debts of the dual, reduced at its least place, that are alike to what the debts go to."""
    _need_dual(table)
    need_debts(debts)
    need_equal_webs(table.web, debts.web)
    need_total(debts, 0)
    dual = dual_of(table).web
    tree = least_tree(table.web)
    amounts = {name: 0 for name in dual.places}
    for place, many in debts:
        # What a place has comes to it step by step, along a tree from the least place.
        way = way_in(table.web, tree, table.web.places[0], place)
        for a, b in zip(way, way[1:]):
            amounts[_rim_along(table, a, b)] += many
            amounts[_rim_along(table, b, a)] -= many
    return reduced(made_debts(dual, amounts), dual.places[0])


def dual_leaning(table, leaning):
    """The leaning of the dual to which a leaning goes."""
    _need_dual(table)
    need_leaning(table.web, leaning)
    ends = {}
    for tie, other in dual_ties(table).items():
        a, b = tie if leaning[tie] == tie[1] else tie[::-1]
        ends[other] = _rim_along(table, a, b)
    return {tie: ends[tie] for tie in sorted(ends)}


def _need_dual(table):
    """Refuses what is no table, and tables that have no dual."""
    need_drawing(table)
    if not _is_held(table.web):
        raise InvalidOperation("the web of this table is not held")
    if len(table) > MAX_RIMS:
        raise TooMany(MAX_RIMS)


def _is_held(web):
    """Whether there are four places or more, and the others hang together whichever two are left out."""
    if len(web) < 4:
        return False
    rests = [tuple([place for place in web.places if place not in tie]) for tie in _pairs(web.places)]
    return all([web.hangs(rest) for rest in rests])


def _pairs(places):
    """The list of the pairs of different places."""
    return [(a, b) for a in places for b in places if a < b]


def _name(table, rim):
    """The name of a rim."""
    return "r" + _LETTERS[table.rims.index(rim)]


def _rim_along(table, place, neighbour):
    """The name of the rim on which one goes from a place to a neighbour."""
    return _name(table, table.rim_along(place, neighbour))


def _rim_round(table, place):
    """The rim of the dual on which one walks round a place, whose neighbours' rims come in their order."""
    return least_rotation(tuple([_rim_along(table, other, place) for other in table.round_at(place)]))
