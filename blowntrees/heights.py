"""Marked rows, their squares, and the heights of cycles over them."""

from blowntrees.checks import check_below
from blowntrees.lefts import dotted, left_table, left_times
from blowntrees.ratios import ratio
from blowntrees.tables import determinant, product, row_of


def canonical_row(tree):
    """Return the row with -2 less the weight at each place."""
    check_below(tree)
    return tuple([-2 - weight for weight in tree[0]])


def is_marked(tree, row):
    """Tell whether each entry is even or odd as the weight of its place is."""
    check_below(tree)
    return all([(entry - weight) % 2 == 0 for entry, weight in zip(row, tree[0])])


def square(tree, row):
    """Return the sum of the products of a row with the inverse times it."""
    check_below(tree)
    weighed = dotted(row, left_times(left_table(tree), row))
    return ratio(-weighed, determinant(tree))


def standing(tree):
    """Return the square of the canonical row plus the number of places."""
    a, b = square(tree, canonical_row(tree))
    return (a + b * len(tree[0]), b)


def height(tree, k, x):
    """Return the height of a cycle over a marked row."""
    check_below(tree)
    return -(dotted(k, x) + product(tree, x, x)) // 2


def carried(tree, k, x):
    """Return a marked row plus 2 times the row of a cycle."""
    check_below(tree)
    return tuple([entry + 2 * other for entry, other in zip(k, row_of(tree, x))])
