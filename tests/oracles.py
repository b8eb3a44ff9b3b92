"""Slow second readings of the document, to hold the program against on small webs."""

from fractions import Fraction
from itertools import combinations, permutations, product

from samples import joined


def sets_of(places):
    """All ascending tuples of one or more of the places."""
    return [told for many in range(1, len(places) + 1) for told in combinations(places, many)]


def rounds_by_trial(names):
    """All rounds of some neighbours, ascending."""
    return sorted(row for row in permutations(names) if row[0] == min(names))


def rims_by_marks(rounds):
    """All rims of a table, ascending: each tie is marked in each direction as soon as it is walked."""
    marked, rims = set(), []
    for start in [(place, other) for place in rounds for other in rounds[place]]:
        place, other = start
        rim = []
        while (place, other) not in marked:
            marked.add((place, other))
            rim.append(place)
            row = rounds[other] + rounds[other][:1]
            place, other = other, row[row.index(place) + 1]
        if rim:
            rims.append(min(tuple(rim[k:] + rim[:k]) for k in range(len(rim))))
    return tuple(sorted(rims))


def lent_by_hand(web, amounts, places):
    """What the places have when each of these has lent one to each neighbour."""
    left = dict(amounts)
    for giver in places:
        for a, b in web.ties:
            if giver in (a, b):
                left[giver] -= 1
                left[b if giver == a else a] += 1
    return left


def is_reduced_by_sets(debts, place):
    """[5.1] word for word: all sets of other places are looked at."""
    others = [other for other in debts.web.places if other != place]
    if any(debts[other] < 0 for other in others):
        return False
    for lenders in sets_of(others):
        left = lent_by_hand(debts.web, debts.amounts, lenders)
        if all(left[lender] >= 0 for lender in lenders):
            return False
    return True


def reduced_by_hand(debts, place):
    """The amounts of the alike debts that are reduced at the place, by lending one by one."""
    web, amounts = debts.web, debts.amounts
    others = [other for other in web.places if other != place]
    while any(amounts[other] < 0 for other in others):
        # Who owes takes one back from each neighbour: the debts wander to the place.
        owing = [other for other in others if amounts[other] < 0][0]
        rest = [other for other in web.places if other != owing]
        amounts = lent_by_hand(web, amounts, rest)
    while True:
        for lenders in sets_of(others):
            left = lent_by_hand(web, amounts, lenders)
            if all(left[lender] >= 0 for lender in lenders):
                amounts = left
                break
        else:
            return amounts


def trees_by_trial(web):
    """All joining trees, found among all sets of ties, ascending."""
    return [told for told in combinations(web.ties, len(web.places) - 1) if joined(web.places, told)]


def small_debts(web, least, most):
    """The dicts of all debts with numbers from the least to the most one."""
    for numbers in product(range(least, most + 1), repeat=len(web.places)):
        yield dict(zip(web.places, numbers))


def gap_of_heights(web, heights):
    """For each place the number of its ties times its height, less the heights of its neighbours."""
    told = {}
    for place in web.places:
        near = [b if place == a else a for a, b in web.ties if place in (a, b)]
        told[place] = len(near) * Fraction(*heights[place]) - sum(Fraction(*heights[other]) for other in near)
    return told


def leanings_of(web):
    """All leanings of a web."""
    for ends in product(*web.ties):
        yield dict(zip(web.ties, ends))


def steps_along(leaning):
    """The pairs of the places from and to which each tie leans."""
    return [(b if end == a else a, end) for (a, b), end in leaning.items()]


def reached_by_marks(web, leaning, place):
    """All places to which one comes along a leaning, by marking them again and again."""
    found = {place}
    for _ in web.places:
        found |= {end for start, end in steps_along(leaning) if start in found}
    return found


def is_walked_along(leaning, ring):
    """Whether a tuple of places is walked along a leaning, and back to its first place."""
    steps = steps_along(leaning)
    return len(ring) >= 3 and len(set(ring)) == len(ring) and all(
        pair in steps for pair in zip(ring, ring[1:] + ring[:1]))


def has_ring(web, leaning):
    """Whether some ring is walked along a leaning: a tie leans back to a place from which one comes to it."""
    return any(start in reached_by_marks(web, leaning, end) for start, end in steps_along(leaning))


def numbers_of(web, leaning):
    """The numbers of the debts of a leaning, in the order of the places."""
    ends = list(leaning.values())
    return tuple(ends.count(place) - 1 for place in web.places)


def with_other_ends(leaning, ties):
    """The leaning with these ties the other way."""
    return {tie: tie[0] if (end == tie[1]) == (tie in ties) else tie[1] for tie, end in leaning.items()}
