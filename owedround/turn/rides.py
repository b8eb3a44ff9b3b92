"""Rides: walkers who never stop, as the hand of each place is turned."""

from owedround.base.rings import is_ring
from owedround.base.tables import need_table
from owedround.base.webs import need_tied, steps_round
from owedround.base.words import has_just_keys, is_count
from owedround.errors import InvalidNumber, InvalidOperation, InvalidRide, InvalidRing
from owedround.owe.burning import reduced
from owedround.owe.debts import Debts
from owedround.tree.joining import count_trees, hands_of, is_hands, need_tree, tree_of_hands
from owedround.turn.hands import given_by


def is_ride(table, value):
    """Whether the value is a ride of the table."""
    need_table(table)
    if not isinstance(value, tuple) or len(value) != 2:
        return False
    hands, place = value
    web = table.web
    if place not in web.places or not has_just_keys(hands, web.places):
        return False
    # From all places one comes to the walker's, from where its hand points, too: so it is on the one loop.
    return hands[place] in web.neighbours(place) and is_hands(web, place, _hands_but(hands, place))


def loop_of(table, ride):
    """The tuple of the places of the loop, from the walker's place on."""
    _need_ride(table, ride)
    hands, place = ride
    loop = [place]
    while hands[loop[-1]] != place:
        loop.append(hands[loop[-1]])
    return tuple(loop)


def stepped(table, ride, *, many=1):
    """The ride behind so many steps."""
    _need_ride(table, ride)
    _need_count(many)
    return _steps(table, ride, many % _round_length(table))[-1]


def stepped_back(table, ride, *, many=1):
    """The ride from which so many steps lead to this one."""
    _need_ride(table, ride)
    _need_count(many)
    # The steps that are left of the round lead there, too.
    return _steps(table, ride, -many % _round_length(table))[-1]


def ride_at(table, tree, place, neighbour):
    """The ride with the walker at the place, its hand on the neighbour, and the other hands those of the tree."""
    need_table(table)
    need_tree(table.web, tree)
    need_tied(table.web, place, neighbour)
    return (_with_hand(table, hands_of(table.web, tree, place), place, neighbour), place)


def tree_of_ride(table, ride):
    """The joining tree of the hands of all places but the walker's."""
    _need_ride(table, ride)
    hands, place = ride
    return tree_of_hands(table.web, place, _hands_but(hands, place))


def round_of(table, ride):
    """The tuple of the rides of the round, from this one on."""
    _need_ride(table, ride)
    return tuple(_steps(table, ride, _round_length(table) - 1))


def same_round(table, one, other):
    """Whether two rides are of one round."""
    _need_ride(table, one)
    _need_ride(table, other)
    return other in round_of(table, one)


def count_rounds(web):
    """The number of rounds of each table of the web."""
    return count_trees(web)


def ride_class(table, ride):
    """The debts of total 1, reduced at the least place, that all rides of the round have."""
    _need_ride(table, ride)
    hands, place = ride
    web = table.web
    first = {other: table.round_at(other)[0] for other in web.places}
    return reduced(Debts.at(web, place) - given_by(table, first, hands), web.places[0])


def turning_debts(table, ring):
    """What the places of a ring give, if the hand of each is turned from the next one on to the one before."""
    need_table(table)
    if not is_ring(table.web, ring):
        raise InvalidRing("this is no ring of the web")
    ahead = {a: b for a, b in steps_round(ring)}
    before = {b: a for a, b in steps_round(ring)}
    return given_by(table, ahead, before)


def steps_to_turn(table, ride):
    """The number of steps behind which the loop is turned, None if there is none."""
    if len(loop_of(table, ride)) == 2:
        raise InvalidOperation("a loop of two places cannot be turned")
    rides = round_of(table, ride)
    turned = turned_ride(table, ride)
    return rides.index(turned) if turned in rides else None


def turned_ride(table, ride):
    """The ride with the hand of each place of the loop on the place before it, and all else as it is."""
    loop = loop_of(table, ride)
    hands, place = ride
    before = {b: a for a, b in steps_round(loop)}
    return ({other: before.get(other, hands[other]) for other in table.web.places}, place)


def _need_ride(table, ride):
    """Refuses what are not a table and a ride of it."""
    if not is_ride(table, ride):
        raise InvalidRide("this is no ride of the table")


def _need_count(many):
    """Refuses what is no integer of at least 0."""
    if not is_count(many):
        raise InvalidNumber(many)


def _round_length(table):
    """The number of the rides of each round."""
    return 2 * len(table.web.ties)


def _hands_but(hands, place):
    """The hands of all places but one."""
    return {other: hands[other] for other in hands if other != place}


def _with_hand(table, hands, place, neighbour):
    """The hands, ascending, with that of a place on a neighbour."""
    return {other: neighbour if other == place else hands[other] for other in table.web.places}


def _steps(table, ride, many):
    """The list of the ride and the rides behind each of so many steps, with ascending hands."""
    hands, place = ride
    rides = [(_with_hand(table, hands, place, hands[place]), place)]
    for _ in range(many):
        hands, place = rides[-1]
        neighbour = table.behind(place, hands[place])
        rides.append((_with_hand(table, hands, place, neighbour), neighbour))
    return rides
