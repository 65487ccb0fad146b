"""The marked rows of a class with |entry| <= -(weight) at each place.

All rows of the least level are among them: where an entry is greater, adding
2 times the row of a place, or taking it away, makes the level less.
"""

from blowntrees.checks import check_below
from blowntrees.errors import TooMany
from blowntrees.lattices import row_basis, told_row, with_entry
from blowntrees.lefts import dotted, left_table, multiplied

MOST_ROWS = 20000


def check_box(tree):
    """Raise an error unless a tree is below zero and its boxes are small."""
    check_below(tree)
    if multiplied([1 - weight for weight in tree[0]]) > MOST_ROWS:
        raise TooMany(MOST_ROWS)


def box_rows(tree, k):
    """Return the rows of the class of a marked row that lie in the box.

    They ascend. Each one stands in a pair, behind minus its square times the
    determinant.
    """
    basis = row_basis(tree)
    lefts = left_table(tree)
    found = [(0, list(told_row(k, basis, 2)))]
    for place, base in enumerate(basis):
        bound = -tree[0][place]
        doubled = [2 * entry for entry in base]
        longer = []
        for weighed, row in found:
            for told in _rows_in_bound(row, doubled, place, bound):
                longer.append((weighed + _added_weight(lefts[place], told, place), told))
        found = longer
    return [(weighed, tuple(row)) for weighed, row in found]


def _rows_in_bound(row, doubled, place, bound):
    """Return the rows that come when multiples are added to bound an entry."""
    step = doubled[place]
    least = (row[place] + bound) % step - bound
    return [with_entry(row, doubled, place, entry) for entry in range(least, bound + 1, step)]


def _added_weight(left_row, row, place):
    """Return what a place adds to the weighed sum over the places ahead of it."""
    ahead = dotted(left_row[:place], row)
    return row[place] * (2 * ahead + left_row[place] * row[place])
