"""The numbers at the places of a web that belong to what its places have, solved exactly."""


def solved(web, amounts, base):
    """The pair of a dict and an integer, by which its integers are to be divided.

    These quotients are 0 at the base, and for each other place the number of its ties times its own
    quotient, less the quotients of its neighbours, is its amount. The divisor is the number of
    joining trees of the web, whatever the amounts are.
    """
    others = [place for place in web.places if place != base]
    rows = [_row(web, place, others) + [amounts[place]] for place in others]
    # The table of a web that hangs together has no 0 at its corner in any step, and each division
    # is one without a rest (fraction-free elimination): so all numbers stay short and exact.
    divisor = 1
    for at in range(len(others)):
        rows, divisor = _cleared(rows, at, divisor), rows[at][at]
    tops = {place: 0 for place in web.places}
    for at, place in enumerate(others):
        tops[place] = rows[at][-1]
    return (tops, divisor)


def _row(web, place, others):
    """The row of a place: the number of its ties at its own column, -1 at those of its neighbours."""
    near = web.neighbours(place)
    return [len(near) if other == place else -1 if other in near else 0 for other in others]


def _cleared(rows, at, divisor):
    """The rows, with 0 in a column of all rows but the one of this column."""
    chosen = rows[at]
    corner = chosen[at]
    cleared = []
    for k, row in enumerate(rows):
        if k == at:
            cleared.append(chosen)
        else:
            cleared.append([(x * corner - row[at] * y) // divisor for x, y in zip(row, chosen)])
    return cleared
