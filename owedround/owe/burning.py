"""Reduced debts, and the burning that tells them from others."""

from owedround.base.solving import solved
from owedround.base.webs import need_place, need_web
from owedround.base.words import is_integer
from owedround.errors import InvalidNumber, InvalidOperation
from owedround.owe.debts import lent_amounts, lent_by, made_debts, need_debts


def reduced(debts, place):
    """The alike debts that are reduced at the place."""
    return lent_by(debts, plan_to_reduced(debts, place))


def is_reduced(debts, place):
    """Whether the debts are reduced at the place."""
    return burning_order(debts, place) is not None


def plan_to_reduced(debts, place):
    """The plan, 0 at the place, that leads to the alike debts that are reduced there."""
    _need_at(debts, place)
    web = debts.web
    plan = _plan_to_little(debts, place)
    amounts = lent_amounts(web, debts.amounts, plan)
    places = _unburnt(web, amounts, place)
    while places:
        once = {other: 1 if other in places else 0 for other in web.places}
        plan = {other: plan[other] + once[other] for other in web.places}
        amounts = lent_amounts(web, amounts, once)
        places = _unburnt(web, amounts, place)
    return plan


def can_be_free(debts):
    """Whether the debts are alike to some debts that are free."""
    need_debts(debts)
    home = debts.web.places[0]
    return reduced(debts, home)[home] >= 0


def lending_set(debts, place):
    """The greatest set of other places that can lend together so that none of them owes then."""
    _need_at(debts, place)
    if not _only_owes(debts, place):
        raise InvalidOperation("another place owes")
    return _unburnt(debts.web, debts.amounts, place)


def burning_order(debts, place):
    """Any burning order of the debts at the place, None if there is none."""
    _need_at(debts, place)
    if not _only_owes(debts, place):
        return None
    order = _burnt(debts.web, debts.amounts, place)
    return order if len(order) == len(debts) else None


def is_burning_order(debts, place, value):
    """Whether the value is a burning order of the debts at the place."""
    _need_at(debts, place)
    web = debts.web
    if not isinstance(value, tuple) or len(value) != len(debts) or value[0] != place:
        return False
    if not all([other in value for other in web.places]) or not _only_owes(debts, place):
        return False
    ahead = {other: value[:at] for at, other in enumerate(value)}
    return all([debts[other] < _many_in(web.neighbours(other), ahead[other]) for other in value[1:]])


def each_reduced(web, place, total):
    """All debts with this total that are reduced at the place, ascending by the other places."""
    need_web(web)
    need_place(web, place)
    if not is_integer(total):
        raise InvalidNumber(total)
    others = tuple([other for other in web.places if other != place])
    # What stands last is taken first: so the rows are turned backward to come out ascending.
    rows = [()]
    while rows:
        row = rows.pop()
        if len(row) == len(others):
            yield made_debts(web, _amounts_of(place, total - sum(row), others, row))
        else:
            rows.extend(_longer_rows(web, place, others, row)[::-1])


def _need_at(debts, place):
    """Refuses what are no debts and a place of their web."""
    need_debts(debts)
    need_place(debts.web, place)


def _only_owes(debts, place):
    """Whether no other place owes."""
    return all([other == place for other in debts.owing])


def _many_in(names, row):
    """How many of the names stand in a row."""
    return len([name for name in names if name in row])


def _plan_to_little(debts, place):
    """A plan, 0 at the place, behind which no other place owes, or has twice as many as ties."""
    web = debts.web
    # Rounding the quotients down moves the number of a place by less than its ties: so it ends at 0
    # or above if the quotients lead to one less than its ties. No number has to be short for this.
    wanted = {other: debts[other] - len(web.neighbours(other)) + 1 for other in web.places}
    tops, divisor = solved(web, wanted, place)
    return {other: tops[other] // divisor for other in web.places}


def _burnt(web, amounts, place):
    """The places that burn, in such an order, if the fire begins at one; no other one owes."""
    left = dict(amounts)
    order = [place]
    at = 0
    while at < len(order):
        here = order[at]
        for other in web.neighbours(here):
            left[other] -= 1
            if left[other] == -1 and other != place:
                order.append(other)
        at += 1
    return tuple(order)


def _unburnt(web, amounts, place):
    """The ascending tuple of the places that do not burn, if the fire begins at one."""
    burnt = _burnt(web, amounts, place)
    return tuple([other for other in web.places if other not in burnt])


def _amounts_of(place, amount, others, row):
    """The dict with an amount at the place, and the other places' amounts, 0 behind the last one."""
    amounts = {other: 0 for other in others}
    amounts[place] = amount
    for other, number in zip(others, row):
        amounts[other] = number
    return amounts


def _longer_rows(web, place, others, row):
    """The rows with one amount more that are reduced with 0 at the places behind it, ascending."""
    # Less at a place leaves debts reduced: so each of these rows is ahead of some reduced debts,
    # and behind the first amount that is too much each one is.
    rows = [row + (0,)]
    while len(_burnt(web, _amounts_of(place, 0, others, rows[-1]), place)) == len(web.places):
        rows.append(row + (len(rows),))
    return rows[:-1]
