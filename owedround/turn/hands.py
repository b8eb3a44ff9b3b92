"""Walkers, who turn the hands of a joining tree on their walks to the home."""

from owedround.base.tables import need_table
from owedround.base.webs import need_place
from owedround.owe.burning import reduced
from owedround.owe.classes import order_of
from owedround.owe.debts import Debts, need_debts, need_equal_webs, need_total
from owedround.tree.joining import hands_of, tree_of_hands


def walk(table, home, tree, place):
    """The tuple of the places on the walk from the place to the home."""
    hands = _hands_for(table, home, tree)
    need_place(table.web, place)
    way, _ = _walk_along(table, home, hands, place)
    return way


def walked(table, home, tree, place):
    """The joining tree behind the walk."""
    return sent(table, home, tree, place)


def walked_back(table, home, tree, place):
    """The joining tree from which the walk leads to this one."""
    _hands_for(table, home, tree)
    need_place(table.web, place)
    return acted(table, home, tree, -_one_walker(table.web, home, place))


def sent(table, home, tree, *places):
    """The joining tree behind the walks from these places, one after the other."""
    hands = _hands_for(table, home, tree)
    for place in places:
        need_place(table.web, place)
    for place in places:
        _, hands = _walk_along(table, home, hands, place)
    return tree_of_hands(table.web, home, hands)


def acted(table, home, tree, debts):
    """The joining tree to which the debts lead."""
    _, hands = _walks_by(table, home, tree, debts)
    return tree_of_hands(table.web, home, hands)


def turns_made(table, home, tree, debts):
    """The dict from all places but the home to how often these walkers turn their hands."""
    ways, _ = _walks_by(table, home, tree, debts)
    return {place: sum([way.count(place) for way in ways]) for place in table.web.places if place != home}


def leading(table, home, one, other):
    """The debts, reduced at the home, that lead from the one joining tree to the other one."""
    hands = _hands_for(table, home, one)
    return reduced(-given_by(table, hands, hands_of(table.web, other, home)), home)


def walks_back(table, home, tree, place):
    """The least number, at least 1, of walks from the place behind which the tree is there again."""
    _hands_for(table, home, tree)
    need_place(table.web, place)
    return order_of(_one_walker(table.web, home, place))


def given_by(table, hands, others):
    """What the places of both dicts give, if the hand of each is turned from the one neighbour on to the other."""
    onto = {place: _brought_onto(table.round_at(place), hands[place], others[place]) for place in hands}
    brought = [neighbour for row in onto.values() for neighbour in row]
    web = table.web
    return Debts(web, {place: brought.count(place) - len(onto.get(place, ())) for place in web.places})


def _hands_for(table, home, tree):
    """The hands of the tree towards the home, behind the checks of all three."""
    need_table(table)
    need_place(table.web, home)
    return hands_of(table.web, tree, home)


def _walk_along(table, home, hands, place):
    """The pair of the places on a walk and the hands behind it."""
    turned = dict(hands)
    way = [place]
    while way[-1] != home:
        here = way[-1]
        turned[here] = table.behind(here, turned[here])
        way.append(turned[here])
    return (tuple(way), turned)


def _walks_by(table, home, tree, debts):
    """The pair of the list of the walks to which debts of total 0 lead, and the hands behind them."""
    hands = _hands_for(table, home, tree)
    need_debts(debts)
    need_equal_webs(table.web, debts.web)
    need_total(debts, 0)
    ways = []
    for place, many in reduced(debts, home):
        # The home itself, whose number is below 0 or 0, sends nobody.
        for _ in range(many):
            way, hands = _walk_along(table, home, hands, place)
            ways.append(way)
    return (ways, hands)


def _one_walker(web, home, place):
    """The debts that act as one walk from the place."""
    return Debts.at(web, place) - Debts.at(web, home)


def _brought_onto(row, neighbour, last):
    """The neighbours in a round onto which a hand is brought, one by one, from a neighbour on to the last one."""
    at, to = row.index(neighbour), row.index(last)
    return row[at + 1:to + 1] if at <= to else row[at + 1:] + row[:to + 1]
