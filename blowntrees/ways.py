"""How the marked rows of a class hang together."""

from blowntrees.steps import unit_cycle
from blowntrees.tables import row_of


class Ways:
    """The ways from a row to those that hang together with it.

    There are two at each place: one adds 2 times the row of the place (with
    the sign 1), the other one takes it away (with the sign -1).
    """

    def __init__(self, tree):
        self.weights = tree[0]
        self.changes = [_change(tree, place) for place in range(len(tree[0]))]
        self.ends = [(place, sign) for place in range(len(tree[0])) for sign in (1, -1)]

    def lead(self, row, place, sign):
        """Return the row to which a way leads."""
        told = list(row)
        for at, entry in self.changes[place]:
            told[at] += sign * entry
        return tuple(told)

    def rise(self, row, place, sign):
        """Return by how much the level is greater where a way leads to."""
        return -(sign * row[place] + self.weights[place]) // 2


def _change(tree, place):
    """Return where and by how much a way at a place changes a row."""
    row = row_of(tree, unit_cycle(tree, place))
    return [(at, 2 * entry) for at, entry in enumerate(row) if entry != 0]


def well_rows(ways, heights):
    """Return one row of each well, a part of one level above no lower row.

    `heights` tells the heights of all rows of a class that lie in the box: so
    do all rows of wells, as beside a row that does not there is a lower one.
    """
    wells = []
    seen = {}
    for row in heights:
        if row in seen:
            continue
        part, is_well = _level_part(ways, heights, row)
        for other in part:
            seen[other] = True
        if is_well:
            wells.append(row)
    return wells


def _level_part(ways, heights, first):
    """Return the box rows of one level that hang together with one of them.

    Also tell whether no other row of this level hangs together with them.
    """
    found = {first: True}
    left = [first]
    is_well = True
    while left:
        row = left.pop()
        for other in _rows_beside(ways, row):
            if other not in heights:
                is_well = False
            elif other not in found:
                found[other] = True
                left.append(other)
    return (list(found), is_well)


def _rows_beside(ways, row):
    """Return the rows of the same level that hang together with a row of the box."""
    return [ways.lead(row, place, sign) for place, sign in ways.ends if ways.rise(row, place, sign) == 0]
