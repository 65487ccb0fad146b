"""Matrices worked out with fractions, apart from the package."""

import itertools
import math
from fractions import Fraction


def plain_table(tree):
    """Return the table of a tree, entry by entry."""
    many = range(len(tree[0]))
    return [[tree[0][i] if i == j else int((min(i, j), max(i, j)) in tree[1]) for j in many] for i in many]


def exchanged(rows):
    return [[-entry for entry in row] for row in rows]


def plain_determinant(rows):
    """Return the determinant of a matrix by bringing it to steps."""
    rows = [[Fraction(entry) for entry in row] for row in rows]
    total = Fraction(1)
    for k in range(len(rows)):
        pivot = next((i for i in range(k, len(rows)) if rows[i][k]), None)
        if pivot is None:
            return 0
        if pivot != k:
            rows[k], rows[pivot] = rows[pivot], rows[k]
            total = -total
        total *= rows[k][k]
        for i in range(k + 1, len(rows)):
            part = rows[i][k] / rows[k][k]
            rows[i] = [a - part * b for a, b in zip(rows[i], rows[k])]
    assert total.denominator == 1
    return int(total)


def plain_signs(rows):
    """Return (p, z, m) by adding rows and the same columns."""
    rows = [[Fraction(entry) for entry in row] for row in rows]
    above = below = 0
    left = list(range(len(rows)))
    while left:
        pivot = next((i for i in left if rows[i][i]), None)
        if pivot is None:
            pair = next(((i, j) for i in left for j in left if rows[i][j]), None)
            if pair is None:
                break
            # Add one row and its column to the other: the entry in the middle is no longer 0.
            i, j = pair
            for k in left:
                rows[i][k] += rows[j][k]
            for k in left:
                rows[k][i] += rows[k][j]
            continue
        above += rows[pivot][pivot] > 0
        below += rows[pivot][pivot] < 0
        left.remove(pivot)
        for i in left:
            part = rows[i][pivot] / rows[pivot][pivot]
            for k in left:
                rows[i][k] -= part * rows[pivot][k]
    return (above, len(left), below)


def minor(rows, gone):
    """Return the matrix without some rows and the same columns."""
    kept = [k for k in range(len(rows)) if k not in gone]
    return [[rows[i][j] for j in kept] for i in kept]


def times(rows, cycle):
    return tuple(sum(a * b for a, b in zip(row, cycle)) for row in rows)


def fraction(ratio):
    return Fraction(ratio[0], ratio[1])


def in_lowest_terms(ratio):
    """Tell whether a value is a ratio as the document tells it."""
    if type(ratio) is not tuple or [type(part) for part in ratio] != [int, int]:
        return False
    told = Fraction(ratio[0], ratio[1]) if ratio[1] > 0 else None
    return told is not None and (told.numerator, told.denominator) == ratio


def plain_inverse(rows):
    """Return the inverse of a matrix by adding rows, with fractions."""
    many = range(len(rows))
    rows = [[Fraction(entry) for entry in row] + [Fraction(int(i == j)) for j in many] for i, row in enumerate(rows)]
    for k in many:
        pivot = next(i for i in many if i >= k and rows[i][k])
        rows[k], rows[pivot] = rows[pivot], rows[k]
        rows[k] = [entry / rows[k][k] for entry in rows[k]]
        for i in many:
            if i != k:
                rows[i] = [a - rows[i][k] * b for a, b in zip(rows[i], rows[k])]
    return [row[len(rows):] for row in rows]


def form(rows, one, other):
    """Return the sum of the products of one row with a matrix times another one."""
    return sum(a * b for a, b in zip(one, times(rows, other)))


def minors_divisor(rows, size, columns):
    """Return the greatest common divisor of the minors of some size in some columns."""
    found = 0
    for some in itertools.combinations(range(len(rows)), size):
        for kept in itertools.combinations(columns, size):
            found = math.gcd(found, plain_determinant([[rows[i][j] for j in kept] for i in some]))
    return found


def plain_least_entries(rows):
    """Return the least entries above 0 of rows of cycles that are 0 ahead of a place.

    The rows of cycles that are made anew in steps have these in the middle; the
    products of the first ones are divisors of all minors in the first columns.
    """
    found = [minors_divisor(rows, size, range(size)) for size in range(len(rows) + 1)]
    return [found[k + 1] // found[k] for k in range(len(rows))]


def plain_sizes(rows):
    """Return the numbers above 1 in the middle when rows and columns are added.

    It goes by plain integers, whatever they grow to.
    """
    rows = [list(row) for row in rows]
    sizes = []
    while rows and any(any(row) for row in rows):
        least, i, j = min((abs(x), i, j) for i, row in enumerate(rows) for j, x in enumerate(row) if x)
        pivot = rows[i][j]
        rows = [row if at == i else [a - (row[j] // pivot) * b for a, b in zip(row, rows[i])]
                for at, row in enumerate(rows)]
        parts = [0 if at == j else x // pivot for at, x in enumerate(rows[i])]
        rows = [[x - part * row[j] for x, part in zip(row, parts)] for row in rows]
        if any(row[j] for at, row in enumerate(rows) if at != i) or any(rows[i][:j] + rows[i][j + 1:]):
            continue
        wrong = next((at for at, row in enumerate(rows) if any(x % least for x in row)), None)
        if wrong is not None:
            rows[i] = [a + b for a, b in zip(rows[i], rows[wrong])]
            continue
        sizes.append(least)
        rows = [row[:j] + row[j + 1:] for at, row in enumerate(rows) if at != i]
    return tuple(size for size in sizes if size != 1) + (0,) * len(rows)
