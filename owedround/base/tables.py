"""Tables of turns: in which order the neighbours of each place stand round it."""

from math import factorial

from owedround.base.rings import is_ring, least_rotation, ring_ties
from owedround.base.webs import Web, need_place, need_tied, need_web, steps_round, tie_of
from owedround.base.words import are_names, has_just_keys, is_name
from owedround.errors import InvalidDrawing, InvalidRing, InvalidTable, ParseError


class Table:
    """A web with a round of neighbours for each place. It never changes."""

    def __init__(self, web, rounds):
        if not is_table(web, rounds):
            raise InvalidTable("this is no table of the web")
        self._web = web
        self._rounds = {place: rounds[place] for place in web.places}
        self._along = _rims_along(self._rounds)
        self._rims = tuple(sorted(set(list(self._along.values()))))

    @classmethod
    def from_lines(cls, *lines):
        """The table with one line like `a: b c d` for each place."""
        rounds = {}
        for at, line in enumerate(lines):
            told = _told_round(line)
            if told is None or told[0] in rounds:
                raise ParseError(at)
            rounds[told[0]] = told[1]
        ties = sorted({tie_of(place, other) for place in rounds for other in rounds[place]})
        return cls(Web(tuple(sorted(rounds)), tuple(ties)), rounds)

    @classmethod
    def plain(cls, web):
        """The table in which all rounds are ascending."""
        need_web(web)
        return cls(web, {place: web.neighbours(place) for place in web.places})

    @property
    def web(self):
        """The web."""
        return self._web

    @property
    def rounds(self):
        """The dict from the places to their rounds."""
        return dict(self._rounds)

    @property
    def rims(self):
        """The ascending tuple of the rims."""
        return self._rims

    @property
    def lack(self):
        """How far the table is from a drawing; 0 for a drawing."""
        return 2 - len(self._web.places) + len(self._web.ties) - len(self._rims)

    @property
    def is_drawing(self):
        """Whether the ties can be drawn without crossing."""
        return self.lack == 0

    @property
    def lines(self):
        """The line of each place, ascending."""
        return tuple([place + ": " + " ".join(self._rounds[place]) for place in self._web.places])

    @property
    def mirror(self):
        """The table with all rounds backward."""
        rounds = {place: least_rotation(self._rounds[place][::-1]) for place in self._web.places}
        return Table(self._web, rounds)

    def round_at(self, place):
        """The round of a place."""
        need_place(self._web, place)
        return self._rounds[place]

    def behind(self, place, neighbour):
        """The neighbour of a place behind a neighbour."""
        need_tied(self._web, place, neighbour)
        return next_in(self._rounds[place], neighbour)

    def ahead(self, place, neighbour):
        """The neighbour of a place ahead of a neighbour."""
        need_tied(self._web, place, neighbour)
        return next_in(self._rounds[place][::-1], neighbour)

    def rim_along(self, place, neighbour):
        """The rim on which one goes from a place to a neighbour."""
        need_tied(self._web, place, neighbour)
        return self._along[(place, neighbour)]

    def with_round(self, place, row):
        """The table with another round at a place."""
        need_place(self._web, place)
        rounds = self.rounds
        rounds[place] = row
        return Table(self._web, rounds)

    def with_tie(self, a, x, b, y):
        """The table with a tie more, behind x in the round of a and behind y in that of b."""
        for place in (a, x, b, y):
            need_place(self._web, place)
        need_tied(self._web, a, x)
        need_tied(self._web, b, y)
        web = self._web.with_tie(a, b)
        rounds = self.rounds
        rounds[a] = _put_behind(rounds[a], x, b)
        rounds[b] = _put_behind(rounds[b], y, a)
        return Table(web, rounds)

    def without_tie(self, a, b):
        """The table with a tie less."""
        web = self._web.without_tie(a, b)
        rounds = self.rounds
        rounds[a] = _left_out(rounds[a], b)
        rounds[b] = _left_out(rounds[b], a)
        return Table(web, rounds)

    def renamed(self, names):
        """The table with other places, by a dict from just its places."""
        web = self._web.renamed(names)
        rounds = {names[place]: _renamed_row(self._rounds[place], names) for place in self._web.places}
        return Table(web, rounds)

    def __contains__(self, value):
        return value in self._rims

    def __len__(self):
        return len(self._rims)

    def __iter__(self):
        return iter(self._rims)

    def __eq__(self, other):
        return isinstance(other, Table) and self._web == other._web and self._rounds == other._rounds

    def __str__(self):
        return f"table of {len(self._web.places)} places, {len(self._web.ties)} ties, {len(self._rims)} rims"


def is_table(web, value):
    """Whether the value is a table of the web, as a dict."""
    need_web(web)
    return has_just_keys(value, web.places) and all([_is_round(web, place, value[place]) for place in web.places])


def count_tables(web):
    """The number of tables of a web."""
    need_web(web)
    many = 1
    for place in web.places:
        many = many * factorial(len(web.neighbours(place)) - 1)
    return many


def each_table(web):
    """All tables of a web, ascending by the rounds of the places."""
    need_web(web)
    choices = [_all_rounds(web.neighbours(place)) for place in web.places]
    # What stands last is taken first: so the rounds are turned backward to come out ascending.
    told = [()]
    while told:
        rows = told.pop()
        if len(rows) == len(choices):
            yield Table(web, dict(zip(web.places, rows)))
        else:
            told.extend([rows + (row,) for row in choices[len(rows)][::-1]])


def sides_of(table, ring):
    """The pair of the ascending tuples of the rims on the first and on the second side of a ring."""
    _need_ring_of_drawing(table, ring)
    return (_side(table, ring, steps_round(ring)), _side(table, ring, steps_round(ring[::-1])))


def ties_within_sides(table, ring):
    """The pair of the ascending tuples of the ties within the first and the second side of a ring."""
    first, second = sides_of(table, ring)
    off = [tie for tie in table.web.ties if tie not in ring_ties(ring)]
    return (
        tuple([(a, b) for a, b in off if table.rim_along(a, b) in first]),
        tuple([(a, b) for a, b in off if table.rim_along(a, b) in second]),
    )


def need_table(table):
    """Refuses what is no table."""
    if not isinstance(table, Table):
        raise InvalidTable("this is no table")


def need_drawing(table):
    """Refuses what is no table, and what is no drawing."""
    need_table(table)
    if not table.is_drawing:
        raise InvalidDrawing("this table is no drawing")


def next_in(row, name):
    """The name behind another one in a row that is closed to a round."""
    return row[(row.index(name) + 1) % len(row)]


def _need_ring_of_drawing(table, ring):
    """Refuses what are not a drawing and a ring of its web."""
    need_drawing(table)
    if not is_ring(table.web, ring):
        raise InvalidRing("this is no ring of the web")


def _side(table, ring, steps):
    """The rims to which one comes from those along the steps, across ties that are not on the ring."""
    barred = ring_ties(ring)
    side = {}
    todo = [table.rim_along(a, b) for a, b in steps]
    while todo:
        rim = todo.pop()
        if rim not in side:
            side[rim] = True
            todo.extend([table.rim_along(b, a) for a, b in steps_round(rim) if tie_of(a, b) not in barred])
    return tuple(sorted(side))


def _told_round(line):
    """The place and the round that a line tells, None if it is no line."""
    if not isinstance(line, str):
        return None
    first, *rest = line.split(" ")
    place, row = first[:-1], tuple(rest)
    if not first.endswith(":") or not is_name(place) or not row or not are_names(row):
        return None
    if len(set(row)) != len(row) or place in row or row[0] != min(row):
        return None
    return (place, row)


def _is_round(web, place, value):
    """Whether the value is a round of a place."""
    near = web.neighbours(place)
    if not isinstance(value, tuple) or len(value) != len(near) or value[0] != near[0]:
        return False
    return all([other in value for other in near])


def _all_rounds(names):
    """All rounds of these names, which ascend, in ascending order."""
    rows = [names[:1]]
    for _ in names[1:]:
        rows = [row + (name,) for row in rows for name in names if name not in row]
    return rows


def _rims_along(rounds):
    """The rim on which one goes, for each pair of a place and a neighbour."""
    along = {}
    for place in rounds:
        for neighbour in rounds[place]:
            if (place, neighbour) not in along:
                steps = _walk_round(rounds, (place, neighbour))
                rim = least_rotation(tuple([a for a, _ in steps]))
                for step in steps:
                    along[step] = rim
    return along


def _walk_round(rounds, first):
    """The steps of a rim, from one of them on."""
    steps = [first]
    step = _next_step(rounds, first)
    while step != first:
        steps.append(step)
        step = _next_step(rounds, step)
    return steps


def _next_step(rounds, step):
    """The step by which a walk along a rim goes on."""
    place, neighbour = step
    return (neighbour, next_in(rounds[neighbour], place))


def _put_behind(row, name, new):
    """The round with a new name behind another one."""
    at = row.index(name) + 1
    return least_rotation(row[:at] + (new,) + row[at:])


def _left_out(row, name):
    """The round without a name."""
    return least_rotation(tuple([other for other in row if other != name]))


def _renamed_row(row, names):
    """The round with other names."""
    return least_rotation(tuple([names[name] for name in row]))
