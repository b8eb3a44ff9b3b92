"""Slow second readings of the document, to hold the program against on small webs."""

from fractions import Fraction
from itertools import combinations, permutations, product

from samples import joined


def sets_of(places):
    """All ascending tuples of one or more of the places."""
    return [told for many in range(1, len(places) + 1) for told in combinations(places, many)]


def rounds_by_trial(names):
    """All rounds of some neighbours, ascending."""
    return sorted(row for row in permutations(names) if row[0] == min(names))


def rims_by_marks(rounds):
    """All rims of a table, ascending: each tie is marked in each direction as soon as it is walked."""
    marked, rims = set(), []
    for start in [(place, other) for place in rounds for other in rounds[place]]:
        place, other = start
        rim = []
        while (place, other) not in marked:
            marked.add((place, other))
            rim.append(place)
            row = rounds[other] + rounds[other][:1]
            place, other = other, row[row.index(place) + 1]
        if rim:
            rims.append(min(tuple(rim[k:] + rim[:k]) for k in range(len(rim))))
    return tuple(sorted(rims))


def lent_by_hand(web, amounts, places):
    """What the places have when each of these has lent one to each neighbour."""
    left = dict(amounts)
    for giver in places:
        for a, b in web.ties:
            if giver in (a, b):
                left[giver] -= 1
                left[b if giver == a else a] += 1
    return left


def is_reduced_by_sets(debts, place):
    """[5.1] word for word: all sets of other places are looked at."""
    others = [other for other in debts.web.places if other != place]
    if any(debts[other] < 0 for other in others):
        return False
    for lenders in sets_of(others):
        left = lent_by_hand(debts.web, debts.amounts, lenders)
        if all(left[lender] >= 0 for lender in lenders):
            return False
    return True


def reduced_by_hand(debts, place):
    """The amounts of the alike debts that are reduced at the place, by lending one by one."""
    web, amounts = debts.web, debts.amounts
    others = [other for other in web.places if other != place]
    while any(amounts[other] < 0 for other in others):
        # Who owes takes one back from each neighbour: the debts wander to the place.
        owing = [other for other in others if amounts[other] < 0][0]
        rest = [other for other in web.places if other != owing]
        amounts = lent_by_hand(web, amounts, rest)
    while True:
        for lenders in sets_of(others):
            left = lent_by_hand(web, amounts, lenders)
            if all(left[lender] >= 0 for lender in lenders):
                amounts = left
                break
        else:
            return amounts


def trees_by_trial(web):
    """All joining trees, found among all sets of ties, ascending."""
    return [told for told in combinations(web.ties, len(web.places) - 1) if joined(web.places, told)]


def small_debts(web, least, most):
    """The dicts of all debts with numbers from the least to the most one."""
    for numbers in product(range(least, most + 1), repeat=len(web.places)):
        yield dict(zip(web.places, numbers))


def gap_of_heights(web, heights):
    """For each place the number of its ties times its height, less the heights of its neighbours."""
    told = {}
    for place in web.places:
        near = [b if place == a else a for a, b in web.ties if place in (a, b)]
        told[place] = len(near) * Fraction(*heights[place]) - sum(Fraction(*heights[other]) for other in near)
    return told


def leanings_of(web):
    """All leanings of a web."""
    for ends in product(*web.ties):
        yield dict(zip(web.ties, ends))


def steps_along(leaning):
    """The pairs of the places from and to which each tie leans."""
    return [(b if end == a else a, end) for (a, b), end in leaning.items()]


def reached_by_marks(web, leaning, place):
    """All places to which one comes along a leaning, by marking them again and again."""
    found = {place}
    for _ in web.places:
        found |= {end for start, end in steps_along(leaning) if start in found}
    return found


def is_walked_along(leaning, ring):
    """Whether a tuple of places is walked along a leaning, and back to its first place."""
    steps = steps_along(leaning)
    return len(ring) >= 3 and len(set(ring)) == len(ring) and all(
        pair in steps for pair in zip(ring, ring[1:] + ring[:1]))


def has_ring(web, leaning):
    """Whether some ring is walked along a leaning: a tie leans back to a place from which one comes to it."""
    return any(start in reached_by_marks(web, leaning, end) for start, end in steps_along(leaning))


def numbers_of(web, leaning):
    """The numbers of the debts of a leaning, in the order of the places."""
    ends = list(leaning.values())
    return tuple(ends.count(place) - 1 for place in web.places)


def with_other_ends(leaning, ties):
    """The leaning with these ties the other way."""
    return {tie: tie[0] if (end == tie[1]) == (tie in ties) else tie[1] for tie, end in leaning.items()}


def behind_by_hand(table, place, neighbour):
    """The neighbour behind another one in a round."""
    row = table.rounds[place]
    return (row + row[:1])[row.index(neighbour) + 1]


def hands_by_hand(tree, home):
    """The hands of a joining tree towards home, by painting it from the home on."""
    hands, found = {}, [home]
    for here in found:
        for tie in tree:
            other = [end for end in tie if end != here][0]
            if here in tie and other not in found:
                hands[other] = here
                found.append(other)
    return hands


def tree_by_hand(hands):
    """The ties between places and where their hands point, ascending."""
    return tuple(sorted(tuple(sorted(pair)) for pair in hands.items()))


def walk_by_hand(table, hands, home, place):
    """[10.1] word for word: the places on a walk; the hands are turned."""
    way = [place]
    while place != home:
        hands[place] = behind_by_hand(table, place, hands[place])
        place = hands[place]
        way.append(place)
    return tuple(way)


def walked_by_hand(table, home, tree, *places):
    """The tree behind the walks from these places."""
    hands = hands_by_hand(tree, home)
    for place in places:
        walk_by_hand(table, hands, home, place)
    return tree_by_hand(hands)


def walkers_of(debts, home):
    """The places from which walkers walk by debts, each one as often as walkers do."""
    amounts = reduced_by_hand(debts, home)
    return [place for place in amounts if place != home for _ in range(amounts[place])]


def tour_by_hand(table, tree, place, neighbour):
    """[12.1] in another order of thoughts: round a place, and round each branch in its turn."""
    pairs = []

    def go_round(here, first, before):
        row = table.rounds[here]
        at = row.index(first)
        for other in row[at:] + row[:at]:
            pairs.append((here, other))
            if tuple(sorted((here, other))) in tree and other != before:
                go_round(other, behind_by_hand(table, other, here), here)

    go_round(place, neighbour, None)
    return tuple(pairs)


def met_by_hand(table, tree, place, neighbour):
    """The pairs of the ties and where they are met first, in this order."""
    met = {}
    for pair in tour_by_hand(table, tree, place, neighbour):
        met.setdefault(tuple(sorted(pair)), pair[0])
    return met


def starts_of(table):
    """All pairs of a place and a neighbour."""
    return [(place, neighbour) for place, row in table.rounds.items() for neighbour in row]


def ring_by_trial(web, tree, tie):
    """The ties of the ring that a tie off a tree closes: those that can be left out instead."""
    return [out for out in sorted(tree + (tie,)) if joined(web.places, [one for one in tree + (tie,) if one != out])]


def cut_by_trial(web, tree, tie):
    """The ties of the cut that a tie of a tree closes: those that can be put in instead."""
    rest = [one for one in tree if one != tie]
    return [new for new in web.ties if joined(web.places, rest + [new])]


def first_side_by_marks(table, ring):
    """The rims on the first side of a ring of a drawing, by marking them again and again."""
    steps = list(zip(ring, ring[1:] + ring[:1]))
    ties = {tuple(sorted(step)) for step in steps}
    on = {step: rim for rim in rims_by_marks(table.rounds) for step in zip(rim, rim[1:] + rim[:1])}
    found = {on[step] for step in steps}
    for _ in table.rims:
        for a, b in [tie for tie in table.web.ties if tie not in ties]:
            if on[a, b] in found or on[b, a] in found:
                found |= {on[a, b], on[b, a]}
    return found
