"""A bench: a table, a home, debts and a joining tree that are changed together, and pledges about them."""

from owedround.base.tables import Table, need_table
from owedround.base.webs import need_place, tie_of
from owedround.base.words import is_count, is_integer, is_name
from owedround.errors import InvalidNumber, InvalidOperation, NothingToUndo, Refused, TooMany
from owedround.owe.burning import reduced
from owedround.owe.debts import made_debts, need_debts, need_equal_webs
from owedround.tree.joining import least_tree, need_tree
from owedround.turn.hands import acted, leading, walked

MAX_PLEDGES = 10


class Standing:
    """What a bench has at one time. It never changes."""

    def __init__(self, table, home, debts, tree, pledges):
        self._table = table
        self._home = home
        self._debts = debts
        self._tree = tree
        self._pledges = pledges
        joins = tuple([f"join {a} {b}" for a, b in tree])
        self._lines = table.lines + (f"home {home}",) + debts.lines + joins

    def but(self, *, table=None, home=None, debts=None, tree=None, pledges=None):
        """The same, with the parts that are told in the place of its own."""
        return Standing(
            self._table if table is None else table,
            self._home if home is None else home,
            self._debts if debts is None else debts,
            self._tree if tree is None else tree,
            self._pledges if pledges is None else pledges,
        )

    def __eq__(self, other):
        return (
            isinstance(other, Standing) and self._table == other._table and self._home == other._home
            and self._debts == other._debts and self._tree == other._tree and self._pledges == other._pledges
        )


class Trial:
    """A block behind which a bench is as it was when the block was entered."""

    def __init__(self, bench):
        self._bench = bench
        self._now = None
        self._past = ()
        self._future = ()

    def __enter__(self):
        bench = self._bench
        self._now = bench._now
        self._past = bench._past
        self._future = bench._future
        return bench

    def __exit__(self, kind, value, trace):
        bench = self._bench
        bench._now = self._now
        bench._past = self._past
        bench._future = self._future


class Bench:
    """A table with a home, debts and a joining tree, which change, and pledges that hold all the time."""

    def __init__(self, table, home, debts, tree):
        need_table(table)
        need_place(table.web, home)
        need_debts(debts)
        need_equal_webs(table.web, debts.web)
        need_tree(table.web, tree)
        self._now = Standing(table, home, debts, tree, ())
        # The standings before, the last one last, and those that were taken back, the next one first.
        self._past = ()
        self._future = ()

    @property
    def table(self):
        """The table."""
        return self._now._table

    @property
    def web(self):
        """The web of the table, of the debts and of the tree."""
        return self._now._table.web

    @property
    def home(self):
        """The place to which walkers walk."""
        return self._now._home

    @property
    def debts(self):
        """The debts."""
        return self._now._debts

    @property
    def tree(self):
        """The joining tree."""
        return self._now._tree

    @property
    def lines(self):
        """The lines of the table, of the home, of the debts and of the tree."""
        return self._now._lines

    @property
    def account(self):
        """The debts, reduced at the home, that walking, lending and settling leave as they are."""
        lead = leading(self.table, self.home, least_tree(self.web), self.tree)
        return reduced(self.debts + lead, self.home)

    @property
    def pledges(self):
        """The pledges, in the order of their demands."""
        return self._now._pledges

    @property
    def changes(self):
        """The number of changes that can be taken back."""
        return len(self._past)

    def lend(self, place, *, many=1):
        """Lets a place lend so many times."""
        return self._change(self._now.but(debts=self.debts.lent(place, many=many)))

    def give(self, place, *, many=1):
        """Gives so many more to a place."""
        need_place(self.web, place)
        if not is_integer(many):
            raise InvalidNumber(many)
        amounts = self.debts.amounts
        amounts[place] += many
        return self._change(self._now.but(debts=made_debts(self.web, amounts)))

    def walk(self, place):
        """Lets a walker walk home from a place and carry 1 there."""
        tree = walked(self.table, self.home, self.tree, place)
        return self._change(self._now.but(tree=tree, debts=self.debts.moved(place, self.home)))

    def settle(self):
        """Lets walkers carry home all that the other places have."""
        if any([place != self.home for place in self.debts.owing]):
            raise InvalidOperation("another place than the home owes")
        amounts = {place: 0 for place in self.web.places}
        amounts[self.home] = self.debts.total
        settled = made_debts(self.web, amounts)
        tree = acted(self.table, self.home, self.tree, self.debts - settled)
        return self._change(self._now.but(tree=tree, debts=settled))

    def move(self, home):
        """Takes another home, or the same."""
        need_place(self.web, home)
        return self._change(self._now.but(home=home))

    def redraw(self, rounds):
        """Takes another table of the same web."""
        return self._change(self._now.but(table=Table(self.web, rounds)))

    def tie(self, a, x, b, y):
        """Ties two places, behind x in the round of a and behind y in that of b."""
        return self._retie(self.table.with_tie(a, x, b, y))

    def strike(self, a, b):
        """Takes away a tie that is not of the tree."""
        table = self.table.without_tie(a, b)
        if tie_of(a, b) in self.tree:
            raise InvalidOperation("this tie is one of the tree")
        return self._retie(table)

    def rename(self, names):
        """Gives other names to all places, by a dict from just them, also in the pledges."""
        table = self.table.renamed(names)
        tree = tuple(sorted([tie_of(names[a], names[b]) for a, b in self.tree]))
        pledges = tuple([_renamed_pledge(pledge, names) for pledge in self.pledges])
        return self._change(Standing(table, names[self.home], self.debts.renamed(names), tree, pledges))

    def demand(self, pledge):
        """Makes a pledge."""
        if not is_pledge(pledge) or pledge in self.pledges:
            raise InvalidOperation("this is no pledge, or it is there already")
        if len(self.pledges) >= MAX_PLEDGES:
            raise TooMany(MAX_PLEDGES)
        return self._change(self._now.but(pledges=self.pledges + (pledge,)))

    def waive(self, pledge):
        """Gives up a pledge."""
        if not self._has_pledge(pledge):
            raise InvalidOperation("there is no such pledge")
        return self._change(self._now.but(pledges=tuple([other for other in self.pledges if other != pledge])))

    def undo(self, *, many=1):
        """Takes back so many changes."""
        _need_steps(many, self._past)
        rest = len(self._past) - many
        steps = self._past[rest:] + (self._now,)
        self._past = self._past[:rest]
        self._now = steps[0]
        self._future = steps[1:] + self._future
        return _news(steps[-1], steps[0])

    def redo(self, *, many=1):
        """Does so many changes again that were taken back."""
        _need_steps(many, self._future)
        steps = (self._now,) + self._future[:many]
        self._past = self._past + steps[:-1]
        self._now = steps[-1]
        self._future = self._future[many:]
        return _news(steps[0], steps[-1])

    def trial(self):
        """What gives the bench to a block, behind which it is as it was."""
        return Trial(self)

    def during(self, call):
        """What the call returns for the bench, which is then as it was."""
        with self.trial() as same:
            return call(same)

    def twin(self):
        """An independent copy with the same pledges and changes."""
        made = Bench(self.table, self.home, self.debts, self.tree)
        made._now = self._now
        made._past = self._past
        made._future = self._future
        return made

    def __contains__(self, value):
        return value in self.lines or self._has_pledge(value)

    def __len__(self):
        return len(self._now._pledges)

    def __iter__(self):
        return iter(self._now._lines)

    def __eq__(self, other):
        return isinstance(other, Bench) and self._now == other._now

    def __str__(self):
        return "".join((
            f"bench of {len(self.web)} places, {len(self.web.ties)} ties, ",
            f"home {self.home}, total {self.debts.total}, {len(self.pledges)} pledges",
        ))

    def _has_pledge(self, value):
        """Whether the value is a pledge of the bench."""
        # Behind the first question no True can be taken for a 1.
        return is_pledge(value) and value in self.pledges

    def _retie(self, table):
        """Takes a table with a tie more or less."""
        return self._change(self._now.but(table=table, debts=made_debts(table.web, self.debts.amounts)))

    def _change(self, standing):
        """Takes another standing, if all its pledges hold, and returns the news."""
        for pledge in standing._pledges:
            if not _holds(standing, pledge):
                raise Refused(pledge)
        before = self._now
        self._past = self._past + (before,)
        self._now = standing
        self._future = ()
        return _news(before, standing)


def is_pledge(value):
    """Whether the value is a pledge, whatever the bench."""
    if not isinstance(value, tuple) or not value:
        return False
    kind, *told = value
    if kind in ("drawing", "free"):
        return not told
    if kind == "total":
        return len(told) == 1 and is_integer(told[0])
    if kind == "home":
        return len(told) == 1 and is_name(told[0])
    if len(told) != 2 or not is_name(told[0]):
        return False
    if kind in ("least", "most"):
        return is_integer(told[1])
    return kind == "joined" and is_name(told[1]) and told[0] != told[1]


def _holds(standing, pledge):
    """Whether a pledge holds."""
    kind, *told = pledge
    debts = standing._debts
    if kind == "drawing":
        return standing._table.is_drawing
    if kind == "free":
        return debts.is_free
    if kind == "total":
        return debts.total == told[0]
    if kind == "home":
        return standing._home == told[0]
    if kind == "joined":
        return tie_of(told[0], told[1]) in standing._tree
    place, number = told
    if place not in debts.web.places:
        return False
    return debts[place] >= number if kind == "least" else debts[place] <= number


def _renamed_pledge(pledge, names):
    """The pledge, which holds, with other names for its places."""
    # The word ahead can be the name of a place, too.
    return pledge[:1] + tuple([names[word] if is_name(word) else word for word in pledge[1:]])


def _need_steps(many, standings):
    """Refuses what is no integer of at least 0, and more than there are."""
    if not is_count(many):
        raise InvalidNumber(many)
    if many > len(standings):
        raise NothingToUndo(many)


def _news(before, now):
    """The pair of the lines that are there no more, and of those that were not there before."""
    gone = [line for line in before._lines if line not in now._lines]
    new = [line for line in now._lines if line not in before._lines]
    return (tuple(sorted(gone)), tuple(sorted(new)))
