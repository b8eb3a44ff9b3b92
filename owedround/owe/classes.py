"""Classes of debts of total 0: their orders, heights and pairings."""

from math import lcm

from owedround.base.solving import solved
from owedround.base.webs import need_web
from owedround.base.words import lowest, part_of_one
from owedround.owe.burning import each_reduced
from owedround.owe.debts import need_debts, need_equal_webs, need_total


def order_of(debts):
    """The least integer of at least 1 so many times of which the debts vanish."""
    order = 1
    for _, bottom in heights_of(debts).values():
        order = lcm(order, bottom)
    return order


def heights_of(debts):
    """The dict from all places to their heights, fractions."""
    need_debts(debts)
    need_total(debts, 0)
    web = debts.web
    tops, divisor = solved(web, debts.amounts, web.places[0])
    return {place: lowest(tops[place], divisor) for place in web.places}


def pairing(one, other):
    """The pairing of two debts, a fraction from 0 on and below 1."""
    need_debts(one)
    need_total(one, 0)
    need_debts(other)
    need_equal_webs(one.web, other.web)
    need_total(other, 0)
    web = one.web
    tops, divisor = solved(web, one.amounts, web.places[0])
    return part_of_one(lowest(sum([tops[place] * other[place] for place in web.places]), divisor))


def each_class(web):
    """One debts of each class: those that are reduced at the least place."""
    need_web(web)
    home = web.places[0]
    yield from each_reduced(web, home, 0)
