"""Slow second readings of the document, to hold the program against on small webs."""

from fractions import Fraction
from itertools import combinations, permutations, product

from samples import joined


def sets_of(places):
    """All ascending tuples of one or more of the places."""
    return [told for many in range(1, len(places) + 1) for told in combinations(places, many)]


def rounds_by_trial(names):
    """All rounds of some neighbours, ascending."""
    return sorted(row for row in permutations(names) if row[0] == min(names))


def rims_by_marks(rounds):
    """All rims of a table, ascending: each tie is marked in each direction as soon as it is walked."""
    marked, rims = set(), []
    for start in [(place, other) for place in rounds for other in rounds[place]]:
        place, other = start
        rim = []
        while (place, other) not in marked:
            marked.add((place, other))
            rim.append(place)
            row = rounds[other] + rounds[other][:1]
            place, other = other, row[row.index(place) + 1]
        if rim:
            rims.append(min(tuple(rim[k:] + rim[:k]) for k in range(len(rim))))
    return tuple(sorted(rims))


def lent_by_hand(web, amounts, places):
    """What the places have when each of these has lent one to each neighbour."""
    left = dict(amounts)
    for giver in places:
        for a, b in web.ties:
            if giver in (a, b):
                left[giver] -= 1
                left[b if giver == a else a] += 1
    return left


def is_reduced_by_sets(debts, place):
    """[5.1] word for word: all sets of other places are looked at."""
    others = [other for other in debts.web.places if other != place]
    if any(debts[other] < 0 for other in others):
        return False
    for lenders in sets_of(others):
        left = lent_by_hand(debts.web, debts.amounts, lenders)
        if all(left[lender] >= 0 for lender in lenders):
            return False
    return True


def reduced_by_hand(debts, place):
    """The amounts of the alike debts that are reduced at the place, by lending one by one."""
    web, amounts = debts.web, debts.amounts
    others = [other for other in web.places if other != place]
    while any(amounts[other] < 0 for other in others):
        # Who owes takes one back from each neighbour: the debts wander to the place.
        owing = [other for other in others if amounts[other] < 0][0]
        rest = [other for other in web.places if other != owing]
        amounts = lent_by_hand(web, amounts, rest)
    while True:
        for lenders in sets_of(others):
            left = lent_by_hand(web, amounts, lenders)
            if all(left[lender] >= 0 for lender in lenders):
                amounts = left
                break
        else:
            return amounts


def trees_by_trial(web):
    """All joining trees, found among all sets of ties, ascending."""
    return [told for told in combinations(web.ties, len(web.places) - 1) if joined(web.places, told)]


def small_debts(web, least, most):
    """The dicts of all debts with numbers from the least to the most one."""
    for numbers in product(range(least, most + 1), repeat=len(web.places)):
        yield dict(zip(web.places, numbers))


def gap_of_heights(web, heights):
    """For each place the number of its ties times its height, less the heights of its neighbours."""
    told = {}
    for place in web.places:
        near = [b if place == a else a for a, b in web.ties if place in (a, b)]
        told[place] = len(near) * Fraction(*heights[place]) - sum(Fraction(*heights[other]) for other in near)
    return told
