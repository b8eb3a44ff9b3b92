"""Webs: places, and the ties along which one comes from each to each other one."""

from owedround.base.words import are_names, is_name, is_naming
from owedround.errors import InvalidOperation, InvalidPlace, InvalidTie, InvalidWeb
from owedround.errors import ParseError, TooMany, UnknownName

MAX_PLACES = 9
MAX_TIES = 18


class Web:
    """Places with ties between them. It never changes."""

    def __init__(self, places, ties):
        if not _is_web(places, ties):
            raise InvalidWeb("there is no web with these places and ties")
        self._places = places
        self._ties = ties
        self._near = {place: _ends_off(ties, place) for place in places}

    @classmethod
    def from_lines(cls, *lines):
        """The web with one line like `tie a b` for each tie."""
        ties = []
        for at, line in enumerate(lines):
            tie = _told_tie(line)
            if tie is None or tie in ties:
                raise ParseError(at)
            ties.append(tie)
        return cls(_ends_of(ties), tuple(sorted(ties)))

    @classmethod
    def of_ties(cls, *ties):
        """The web with just these ties."""
        if not all([is_tie(tie) for tie in ties]):
            raise InvalidTie("a tie has to be an ascending pair of names")
        if len(set(ties)) != len(ties):
            raise InvalidTie("a tie is there twice")
        return cls(_ends_of(ties), tuple(sorted(ties)))

    @property
    def places(self):
        """The ascending tuple of the places."""
        return self._places

    @property
    def ties(self):
        """The ascending tuple of the ties."""
        return self._ties

    @property
    def lines(self):
        """The line of each tie, ascending."""
        return tuple([f"tie {a} {b}" for a, b in self._ties])

    @property
    def spare(self):
        """How many ties a joining tree leaves out."""
        return len(self._ties) - len(self._places) + 1

    @property
    def bridges(self):
        """The ascending tuple of the ties without which the web falls apart."""
        return tuple([tie for tie in self._ties if not self._joined_without(tie)])

    def neighbours(self, place):
        """The ascending tuple of the places that are tied to a place."""
        need_place(self, place)
        return self._near[place]

    def ties_at(self, place):
        """The ascending tuple of the ties of a place."""
        need_place(self, place)
        return tuple([tie for tie in self._ties if place in tie])

    def is_tied(self, a, b):
        """Whether two places are tied."""
        need_place(self, a)
        need_place(self, b)
        return b in self._near[a]

    def hangs(self, places):
        """Whether the places of a set hang together."""
        inside = self.ties_within(places)
        if not places:
            raise InvalidOperation("a set without places does not hang together")
        return reached_along(inside, places[0]) == places

    def ties_within(self, places):
        """The ascending tuple of the ties with both ends in a set of places."""
        self._need_set(places)
        return tuple([(a, b) for a, b in self._ties if a in places and b in places])

    def ties_across(self, places):
        """The ascending tuple of the ties with just one end in a set of places."""
        self._need_set(places)
        return tuple([(a, b) for a, b in self._ties if (a in places) != (b in places)])

    def with_tie(self, a, b):
        """The web with this tie more."""
        if self.is_tied(a, b) or a == b:
            raise InvalidTie("these places are equal or tied already")
        if len(self._ties) >= MAX_TIES:
            raise TooMany(MAX_TIES)
        return _sorted_web(self._places, self._ties + (tie_of(a, b),))

    def without_tie(self, a, b):
        """The web with this tie less."""
        if not self.is_tied(a, b):
            raise InvalidTie("these places are not tied")
        if not self._joined_without(tie_of(a, b)):
            raise InvalidOperation("the web would fall apart")
        return Web(self._places, self._ties_but(tie_of(a, b)))

    def with_place(self, name, neighbour):
        """The web with one place more, tied to a neighbour."""
        if not is_name(name) or name in self._places:
            raise InvalidPlace("this is no name, or a place already")
        need_place(self, neighbour)
        if len(self._places) >= MAX_PLACES:
            raise TooMany(MAX_PLACES)
        if len(self._ties) >= MAX_TIES:
            raise TooMany(MAX_TIES)
        return _sorted_web(self._places + (name,), self._ties + (tie_of(name, neighbour),))

    def renamed(self, names):
        """The web with other names, by a dict from just its places."""
        if not is_naming(self._places, names):
            raise InvalidOperation("this does not give all places different names")
        places = [names[place] for place in self._places]
        return _sorted_web(places, [tie_of(names[a], names[b]) for a, b in self._ties])

    def __contains__(self, value):
        return value in self._places or value in self._ties

    def __len__(self):
        return len(self._places)

    def __iter__(self):
        return iter(self._ties)

    def __eq__(self, other):
        return isinstance(other, Web) and self._places == other._places and self._ties == other._ties

    def __str__(self):
        return f"web of {len(self._places)} places, {len(self._ties)} ties"

    def _need_set(self, places):
        """Refuses what is no ascending tuple of places."""
        if not is_place_set(self, places):
            raise InvalidOperation("this is no ascending tuple of places")

    def _ties_but(self, tie):
        """The ties but one."""
        return tuple([other for other in self._ties if other != tie])

    def _joined_without(self, tie):
        """Whether the places hang together without a tie."""
        return reached_along(self._ties_but(tie), self._places[0]) == self._places


def full_web(places):
    """The web with these places and all ties between them."""
    if not _are_places(places):
        raise InvalidWeb("this is no ascending tuple of two to nine names")
    return Web(places, tuple([(a, b) for a in places for b in places if a < b]))


def ring_web(ring):
    """The web in which each of these places is tied to the next one, and the last to the first."""
    if not are_names(ring) or not 3 <= len(ring) <= MAX_PLACES or len(set(ring)) != len(ring):
        raise InvalidWeb("this is no tuple of three to nine different names")
    return _sorted_web(ring, [tie_of(a, b) for a, b in steps_round(ring)])


def need_web(web):
    """Refuses what is no web."""
    if not isinstance(web, Web):
        raise InvalidWeb("this is no web")


def need_place(web, place):
    """Refuses what is no place of a web."""
    # The places are a tuple, so that even a value without a hash can be looked up.
    if place not in web.places:
        raise UnknownName(place)


def need_tied(web, place, neighbour):
    """Refuses what are not two places of a web that are tied."""
    if not web.is_tied(place, neighbour):
        raise InvalidTie("these places are not tied")


def is_place_set(web, value):
    """Whether the value is an ascending tuple of places of a web, perhaps an empty one."""
    if not isinstance(value, tuple) or not all([place in web.places for place in value]):
        return False
    # Only here are all of them strings, which can be compared.
    return ascends(value)


def is_tie(value):
    """Whether the value is an ascending pair of names."""
    return are_names(value) and len(value) == 2 and value[0] < value[1]


def tie_of(a, b):
    """The tie of two places, whichever of them comes first."""
    return (a, b) if a < b else (b, a)


def steps_round(row):
    """The list of the pairs of neighbours in a tuple, the last and the first item among them."""
    return list(zip(row, row[1:] + row[:1]))


def ascends(row):
    """Whether the items of a row ascend strictly."""
    return all([one < other for one, other in zip(row, row[1:])])


def reached_along(ties, place):
    """The ascending tuple of the places to which one comes along ties, the first one among them."""
    reached = {place: True}
    todo = [place]
    while todo:
        here = todo.pop()
        for other in _ends_off(ties, here):
            if other not in reached:
                reached[other] = True
                todo.append(other)
    return tuple(sorted(reached))


def _ends_of(ties):
    """The ascending tuple of all ends of ties."""
    return tuple(sorted({place for tie in ties for place in tie}))


def _ends_off(ties, place):
    """The ascending tuple of the other ends of the ties of a place."""
    return tuple(sorted([b if a == place else a for a, b in ties if place in (a, b)]))


def _told_tie(line):
    """The tie that a line tells, None if it is no line."""
    if not isinstance(line, str):
        return None
    words = line.split(" ")
    if len(words) != 3 or words[0] != "tie":
        return None
    tie = tie_of(words[1], words[2])
    return tie if is_tie(tie) else None


def _sorted_web(places, ties):
    """The web with these places and ties, which come in any order."""
    return Web(tuple(sorted(places)), tuple(sorted(ties)))


def _is_web(places, ties):
    """Whether there is a web with these places and ties."""
    return _are_places(places) and _are_ties(places, ties) and reached_along(ties, places[0]) == places


def _are_places(value):
    """Whether the value is an ascending tuple of as many names as a web can have."""
    return are_names(value) and 2 <= len(value) <= MAX_PLACES and ascends(value)


def _are_ties(places, value):
    """Whether the value is an ascending tuple of ties between places."""
    if not isinstance(value, tuple) or len(value) > MAX_TIES or not all([is_tie(tie) for tie in value]):
        return False
    return ascends(value) and all([a in places and b in places for a, b in value])
