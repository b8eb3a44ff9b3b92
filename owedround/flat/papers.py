"""Papers against a drawing: what no drawing has, and each other table has."""

from owedround.base.rings import each_ring, is_ring
from owedround.base.tables import need_table
from owedround.owe.debts import Debts, are_alike
from owedround.tree.joining import each_tree, is_joining_tree, need_few_trees
from owedround.turn.hands import acted
from owedround.turn.rides import turning_debts
from owedround.turn.tours import leads_round

MAX_TREES = 1000


def difference_of(table):
    """Any two homes, a tree and debts that act on it unlike towards them, None if there are none."""
    need_table(table)
    if table.is_drawing:
        return None
    web = table.web
    need_few_trees(web, MAX_TREES)
    # If any two homes differ, some home differs from the least one. And each debts of total 0 are
    # sums of these ones, so if debts act unlike on some tree, some of these do.
    home = web.places[0]
    for tree in each_tree(web):
        for place in web.places[1:]:
            debts = Debts.at(web, place) - Debts.at(web, home)
            for other in web.places[1:]:
                if is_difference(table, (home, other, tree, debts)):
                    return (home, other, tree, debts)
    return None


def is_difference(table, value):
    """Whether the value is a difference of the table."""
    need_table(table)
    if not isinstance(value, tuple) or len(value) != 4:
        return False
    home, other, tree, debts = value
    places = table.web.places
    if home not in places or other not in places or not _fit(table.web, tree, debts):
        return False
    return acted(table, home, tree, debts) != acted(table, other, tree, debts)


def disagreement_of(table):
    """Any home, tree and debts that act on it and tour it unlike, None if there are none."""
    need_table(table)
    if table.is_drawing:
        return None
    web = table.web
    need_few_trees(web, MAX_TREES)
    # At some home there is none. So all homes are tried with each tree before the next tree is.
    for tree in each_tree(web):
        for home in web.places:
            for place in web.places:
                debts = Debts.at(web, place) - Debts.at(web, home)
                if is_disagreement(table, (home, tree, debts)):
                    return (home, tree, debts)
    return None


def is_disagreement(table, value):
    """Whether the value is a disagreement of the table."""
    need_table(table)
    if not isinstance(value, tuple) or len(value) != 3:
        return False
    home, tree, debts = value
    if home not in table.web.places or not _fit(table.web, tree, debts):
        return False
    return not leads_round(table, home, tree, debts, acted(table, home, tree, debts))


def unturned_ring(table):
    """Any unturned ring, from its least place on, None if there is none."""
    need_table(table)
    if table.is_drawing:
        return None
    for ring in each_ring(table.web):
        if is_unturned_ring(table, ring):
            return ring
    return None


def is_unturned_ring(table, value):
    """Whether the value is a ring of the web along which no ride is ever turned."""
    need_table(table)
    return is_ring(table.web, value) and not are_alike(turning_debts(table, value), Debts.none(table.web))


def _fit(web, tree, debts):
    """Whether these are a joining tree and debts of the web, with the total 0."""
    if not is_joining_tree(web, tree) or not isinstance(debts, Debts):
        return False
    return debts.web == web and debts.total == 0
