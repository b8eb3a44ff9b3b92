"""Debts: what the places of a web owe or have, and the plans by which they lend."""

from owedround.base.solving import solved
from owedround.base.webs import is_place_set, need_place, need_web
from owedround.base.words import MAX_FIGURES, has_just_keys, is_integer
from owedround.errors import InvalidDebts, InvalidNumber, InvalidOperation, InvalidPlace, InvalidPlan
from owedround.errors import ParseError


class Debts:
    """An integer for each place of a web. They never change."""

    def __init__(self, web, amounts):
        need_web(web)
        if not _are_numbers(web, amounts):
            raise InvalidDebts("this is no dict from just the places to integers")
        self._web = web
        self._amounts = {place: amounts[place] for place in web.places}

    @classmethod
    def none(cls, web):
        """The debts with 0 everywhere."""
        need_web(web)
        return cls(web, {place: 0 for place in web.places})

    @classmethod
    def at(cls, web, *places):
        """The debts in which each place has as many as it is told times."""
        need_web(web)
        for place in places:
            need_place(web, place)
        return cls(web, {place: places.count(place) for place in web.places})

    @classmethod
    def from_lines(cls, web, *lines):
        """The debts with lines like `a has 3` and `b owes 2`."""
        need_web(web)
        told = {}
        for at, line in enumerate(lines):
            pair = _told_pair(web, line)
            if pair is None or pair[0] in told:
                raise ParseError(at)
            told[pair[0]] = pair[1]
        return cls(web, {place: told.get(place, 0) for place in web.places})

    @property
    def web(self):
        """The web."""
        return self._web

    @property
    def amounts(self):
        """The dict from the places to their integers."""
        return dict(self._amounts)

    @property
    def total(self):
        """The sum of all integers."""
        return sum(list(self._amounts.values()))

    @property
    def owing(self):
        """The ascending tuple of the places that owe."""
        return tuple([place for place, amount in self._amounts.items() if amount < 0])

    @property
    def is_free(self):
        """Whether no place owes."""
        return not self.owing

    @property
    def lines(self):
        """The line of each place that has or owes something, ascending."""
        return tuple([_line(place, amount) for place, amount in self._amounts.items() if amount != 0])

    def lent(self, place, *, many=1):
        """The debts behind a place has lent so many times."""
        need_place(self._web, place)
        _need_many(many)
        return lent_by(self, {other: many if other == place else 0 for other in self._web.places})

    def lent_together(self, places):
        """The debts behind each of these places has lent once."""
        if not is_place_set(self._web, places):
            raise InvalidPlace("this is no ascending tuple of places")
        return lent_by(self, {place: 1 if place in places else 0 for place in self._web.places})

    def moved(self, giver, taker, *, many=1):
        """The debts with so many less at the giver and more at the taker."""
        need_place(self._web, giver)
        need_place(self._web, taker)
        _need_many(many)
        amounts = self.amounts
        amounts[giver] -= many
        amounts[taker] += many
        return made_debts(self._web, amounts)

    def after(self, plan):
        """The debts behind a plan."""
        _need_plan(self._web, plan)
        return lent_by(self, plan)

    def renamed(self, names):
        """The debts of the web with other names."""
        web = self._web.renamed(names)
        return made_debts(web, {names[place]: amount for place, amount in self._amounts.items()})

    def __getitem__(self, at):
        need_place(self._web, at)
        return self._amounts[at]

    def __add__(self, other):
        self._need_fitting(other)
        return made_debts(self._web, {place: self._amounts[place] + other._amounts[place] for place in self._amounts})

    def __sub__(self, other):
        self._need_fitting(other)
        return made_debts(self._web, {place: self._amounts[place] - other._amounts[place] for place in self._amounts})

    def __neg__(self):
        return made_debts(self._web, {place: -amount for place, amount in self._amounts.items()})

    def __mul__(self, other):
        if not is_integer(other):
            raise InvalidOperation("debts are multiplied by an integer only")
        return made_debts(self._web, {place: amount * other for place, amount in self._amounts.items()})

    def __rmul__(self, other):
        return self * other

    def __contains__(self, value):
        return value in self.lines

    def __len__(self):
        return len(self._amounts)

    def __iter__(self):
        return iter(self._amounts.items())

    def __eq__(self, other):
        return isinstance(other, Debts) and self._web == other._web and self._amounts == other._amounts

    def __str__(self):
        return f"debts of {len(self._amounts)} places, total {self.total}, {len(self.owing)} owing"

    def _need_fitting(self, other):
        """Refuses what are no debts of an equal web."""
        if not isinstance(other, Debts) or self._web != other._web:
            raise InvalidOperation("these are no debts of an equal web")


def is_plan(web, value):
    """Whether the value is a plan of the web."""
    need_web(web)
    return _are_numbers(web, value)


def plain_plan(web, plan):
    """The plan whose least integer is 0 and that differs from a plan by one integer at all places."""
    _need_plan(web, plan)
    least = min(list(plan.values()))
    return {place: plan[place] - least for place in web.places}


def joined_plans(web, *plans):
    """The plan whose integers are the sums of those of all plans."""
    need_web(web)
    for plan in plans:
        _need_plan(web, plan)
    return {place: sum([plan[place] for plan in plans]) for place in web.places}


def are_alike(one, other):
    """Whether a plan leads from the one debts to the other ones."""
    return plan_between(one, other) is not None


def plan_between(one, other):
    """The plain plan that leads from the one debts to the other ones, None if there is none."""
    need_debts(one)
    need_debts(other)
    need_equal_webs(one.web, other.web)
    gap = one - other
    if gap.total != 0:
        return None
    tops, divisor = solved(gap.web, gap.amounts, gap.web.places[0])
    if any([top % divisor != 0 for top in tops.values()]):
        return None
    least = min(list(tops.values())) // divisor
    return {place: tops[place] // divisor - least for place in tops}


def need_debts(debts):
    """Refuses what are no debts."""
    if not isinstance(debts, Debts):
        raise InvalidDebts("these are no debts")


def need_equal_webs(web, other):
    """Refuses what belongs to another web."""
    if web != other:
        raise InvalidOperation("this belongs to another web")


def need_total(debts, total):
    """Refuses debts with another total."""
    if debts.total != total:
        raise InvalidOperation("these debts have another total than they must have")


def made_debts(web, amounts):
    """The debts with these integers, which can be longer than those that callers may pass."""
    made = Debts(web, {place: 0 for place in web.places})
    made._amounts = {place: amounts[place] for place in web.places}
    return made


def lent_by(debts, plan):
    """The debts behind a plan, whose integers can be longer than those that callers may pass."""
    return made_debts(debts.web, lent_amounts(debts.web, debts.amounts, plan))


def lent_amounts(web, amounts, plan):
    """What the places have behind a plan."""
    left = {}
    for place in web.places:
        near = web.neighbours(place)
        left[place] = amounts[place] - len(near) * plan[place] + sum([plan[other] for other in near])
    return left


def _are_numbers(web, value):
    """Whether the value is a dict from just the places to integers."""
    return has_just_keys(value, web.places) and all([is_integer(number) for number in value.values()])


def _need_plan(web, plan):
    """Refuses what is no plan of the web."""
    if not is_plan(web, plan):
        raise InvalidPlan("this is no plan of the web")


def _need_many(many):
    """Refuses what is no integer."""
    if not is_integer(many):
        raise InvalidNumber(many)


def _line(place, amount):
    """The line of a place that has or owes something."""
    return f"{place} has {amount}" if amount > 0 else f"{place} owes {-amount}"


def _told_pair(web, line):
    """The place and the integer that a line tells, None if it is no line."""
    if not isinstance(line, str):
        return None
    words = line.split(" ")
    if len(words) != 3 or words[0] not in web.places or not _are_figures(words[2]):
        return None
    if words[1] == "has":
        return (words[0], int(words[2]))
    if words[1] == "owes":
        return (words[0], -int(words[2]))
    return None


def _are_figures(word):
    """Whether a word tells a number from 1 on without a zero ahead."""
    if not 1 <= len(word) <= MAX_FIGURES or word[0] == "0":
        return False
    return all(["0" <= figure <= "9" for figure in word])
