"""Classes of marked rows, and their levels."""

from blowntrees.boxes import box_rows, check_box
from blowntrees.checks import check_below
from blowntrees.errors import TooMany
from blowntrees.heights import square
from blowntrees.lattices import row_basis, told_row
from blowntrees.ratios import ratio
from blowntrees.rows import all_rows
from blowntrees.tables import determinant

MOST_CLASSES = 100


def class_of(tree, k):
    """Return the told row of the class of a marked row."""
    check_below(tree)
    return told_row(k, row_basis(tree), 2)


def all_classes(tree):
    """Return the told rows of all classes, ascending."""
    check_below(tree)
    if determinant(tree) > MOST_CLASSES:
        raise TooMany(MOST_CLASSES)
    choices = []
    for place, base in enumerate(row_basis(tree)):
        choices.append(list(range(tree[0][place] % 2, 2 * base[place], 2)))
    return all_rows(choices)


def level(tree, k):
    """Return minus one eighth of the square of a row and the number of places."""
    a, b = square(tree, k)
    return ratio(-a - b * len(tree[0]), 8 * b)


def lowest(tree, k):
    """Return the least level in the class of a marked row."""
    return level(tree, lowest_rows(tree, k)[0])


def lowest_rows(tree, k):
    """Return the rows of the least level in the class of a marked row, ascending."""
    check_box(tree)
    found = box_rows(tree, k)
    least = min([weighed for weighed, _ in found])
    return tuple([row for weighed, row in found if weighed == least])
