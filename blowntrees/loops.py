"""Loops: rows but for the rows of cycles."""

from math import gcd

from blowntrees.checks import checked_determinant
from blowntrees.errors import TooMany
from blowntrees.lattices import diagonal, dividing, row_basis, told_row
from blowntrees.lefts import left_table, left_times
from blowntrees.rows import all_rows
from blowntrees.tables import table

MOST_LOOPS = 400


def loop_of(tree, row):
    """Return the least row that is one loop with a row."""
    return told_row(row, row_basis(tree), 1)


def all_loops(tree):
    """Return all loops, each told by its least row."""
    if abs(checked_determinant(tree)) > MOST_LOOPS:
        raise TooMany(MOST_LOOPS)
    basis = row_basis(tree)
    return all_rows([list(range(base[place])) for place, base in enumerate(basis)])


def loop_sizes(tree):
    """Return the integers modulo which the loops are rows, each dividing the next."""
    limit = abs(checked_determinant(tree))
    return tuple([size for size in dividing(diagonal(table(tree), limit)) if size > 1])


def loop_order(tree, row):
    """Return how often a row must be added to itself to be the row of a cycle."""
    # The row of a cycle is one for which the inverse has integers: `left_times`
    # over the determinant, but for the sign.
    whole = abs(checked_determinant(tree))
    common = whole
    for entry in left_times(left_table(tree), row):
        common = gcd(common, entry)
    return whole // common
