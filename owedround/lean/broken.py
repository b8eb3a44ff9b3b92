"""Broken debts: those that the ties off a joining tree make, each by giving one to one of its ends."""

from owedround.base.webs import is_place_set, need_place, need_web, reached_along, tie_of
from owedround.base.words import has_just_keys
from owedround.errors import InvalidOperation
from owedround.lean.leanings import crowded, debts_of, fitted, leaning_by, steps_turned, trails_from, wanted_by
from owedround.lean.ways import led_leaning
from owedround.owe.debts import Debts, need_debts, need_total
from owedround.tree.joining import is_joining_tree, need_few_trees

MAX_TREES = 1000


def is_broken(debts):
    """Whether there is a breaking of the debts."""
    need_debts(debts)
    return led_steps(debts, debts.web.places[0]) is not None


def breaking(debts):
    """Any breaking of the debts, None if there is none."""
    need_debts(debts)
    web = debts.web
    home = web.places[0]
    steps = led_steps(debts, home)
    if steps is None:
        return None
    before = trails_from(steps, home)
    tree = tuple(sorted([tie_of(place, before[place]) for place in web.places if place != home]))
    leaning = leaning_by(web, steps)
    return (tree, {tie: leaning[tie] for tie in web.ties if tie not in tree})


def is_breaking(debts, value):
    """Whether the value is a breaking of the debts."""
    need_debts(debts)
    web = debts.web
    if not isinstance(value, tuple) or len(value) != 2:
        return False
    tree, ends = value
    if not is_joining_tree(web, tree):
        return False
    off = [tie for tie in web.ties if tie not in tree]
    if not has_just_keys(ends, off) or not all([ends[tie] in tie for tie in off]):
        return False
    given = list(ends.values())
    return all([given.count(place) == debts[place] for place in web.places])


def lacking(debts):
    """Any set that lacks for the debts, None if there is none."""
    need_debts(debts)
    web = debts.web
    for place in web.places:
        # A set with this place that hangs together lacks exactly if it is crowded when the place has
        # one less. Without the place it lacks all the more, and what is found hangs together.
        places = crowded(debts - Debts.at(web, place))
        if places is not None:
            return places
    return None


def is_lacking(debts, value):
    """Whether the value is a set that lacks for the debts."""
    need_debts(debts)
    web = debts.web
    return is_place_set(web, value) and value != () and web.hangs(value) and _lacks(debts, value)


def broken_alike(debts):
    """The broken debts of the class of the debts."""
    need_debts(debts)
    web = debts.web
    need_total(debts, web.spare)
    home = web.places[0]
    one = Debts.at(web, home)
    return debts_of(web, led_leaning(debts - one, home)) + one


def each_broken(web):
    """All broken debts of a web, ascending by their numbers in the order of the places."""
    need_web(web)
    need_few_trees(web, MAX_TREES)
    least = _least_sums(web)
    # What stands last is taken first: so the rows are turned backward to come out ascending.
    rows = [()]
    while rows:
        row = rows.pop()
        if len(row) == len(web.places):
            yield Debts(web, dict(zip(web.places, row)))
        else:
            rows.extend(_longer_rows(least, row)[::-1])


def broken_leaning(debts, place):
    """Any leaning that is led from the place and whose debts are these ones less one at the place."""
    need_debts(debts)
    need_place(debts.web, place)
    return leaning_by(debts.web, need_led_steps(debts, place))


def led_steps(debts, place):
    """The steps along any leaning that is led from the place and whose debts are these ones less one at the place.

    None if the debts are not broken.
    """
    web = debts.web
    if debts.total != web.spare:
        return None
    wanted = wanted_by(debts)
    wanted[place] -= 1
    back, _ = fitted(web, wanted)
    if back is None:
        return None
    # One leaning tells it for all with these debts: if one comes to some places only, no tie leans from
    # these to the others, so in each of them no more ties lean to the others than there are among those.
    steps = steps_turned(back)
    return steps if len(trails_from(steps, place)) == len(web.places) else None


def need_led_steps(debts, place):
    """These steps; debts that are not broken are refused."""
    steps = led_steps(debts, place)
    if steps is None:
        raise InvalidOperation("these debts are not broken")
    return steps


def _lacks(debts, places):
    """Whether places that hang together have less than their spare number."""
    spare = len(debts.web.ties_within(places)) - len(places) + 1
    return sum([debts[place] for place in places]) < spare


def _least_sum(web, places):
    """What the places of a set must have together in broken debts: the spare numbers of its pieces."""
    ties = web.ties_within(places)
    pieces = len({reached_along(ties, place) for place in places})
    return len(ties) - len(places) + pieces


def _least_sums(web):
    """The least sums of all sets of places, each one at the number of its set.

    The k-th place adds 2 to the power of k to the number of each set that it is in.
    """
    sets = [()]
    for place in web.places:
        sets = sets + [places + (place,) for places in sets]
    return [_least_sum(web, places) for places in sets]


def _longer_rows(least, row):
    """The rows with one number more that some broken debts begin with, ascending."""
    sums = [0]
    for number in row:
        sums = sums + [one + number for one in sums]
    # The new place joins each set of those ahead of it. Such a set has at least its least sum, and
    # leaves at least theirs to all others. All numbers between these bounds go on to broken debts,
    # as the least sums of two sets together are at most those of what they share and of their union.
    bit = len(sums)
    low = max([least[at + bit] - one for at, one in enumerate(sums)])
    high = min([least[-1] - least[len(least) - 1 - at - bit] - one for at, one in enumerate(sums)])
    return [row + (number,) for number in range(low, high + 1)]
