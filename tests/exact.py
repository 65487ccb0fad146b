"""Matrices worked out with fractions, apart from the package."""

from fractions import Fraction


def plain_table(tree):
    """Return the table of a tree, entry by entry."""
    many = range(len(tree[0]))
    return [[tree[0][i] if i == j else int((min(i, j), max(i, j)) in tree[1]) for j in many] for i in many]


def exchanged(rows):
    return [[-entry for entry in row] for row in rows]


def plain_determinant(rows):
    """Return the determinant of a matrix by bringing it to steps."""
    rows = [[Fraction(entry) for entry in row] for row in rows]
    total = Fraction(1)
    for k in range(len(rows)):
        pivot = next((i for i in range(k, len(rows)) if rows[i][k]), None)
        if pivot is None:
            return 0
        if pivot != k:
            rows[k], rows[pivot] = rows[pivot], rows[k]
            total = -total
        total *= rows[k][k]
        for i in range(k + 1, len(rows)):
            part = rows[i][k] / rows[k][k]
            rows[i] = [a - part * b for a, b in zip(rows[i], rows[k])]
    assert total.denominator == 1
    return int(total)


def plain_signs(rows):
    """Return (p, z, m) by adding rows and the same columns."""
    rows = [[Fraction(entry) for entry in row] for row in rows]
    above = below = 0
    left = list(range(len(rows)))
    while left:
        pivot = next((i for i in left if rows[i][i]), None)
        if pivot is None:
            pair = next(((i, j) for i in left for j in left if rows[i][j]), None)
            if pair is None:
                break
            # Add one row and its column to the other: the entry in the middle is no longer 0.
            i, j = pair
            for k in left:
                rows[i][k] += rows[j][k]
            for k in left:
                rows[k][i] += rows[k][j]
            continue
        above += rows[pivot][pivot] > 0
        below += rows[pivot][pivot] < 0
        left.remove(pivot)
        for i in left:
            part = rows[i][pivot] / rows[pivot][pivot]
            for k in left:
                rows[i][k] -= part * rows[pivot][k]
    return (above, len(left), below)


def minor(rows, gone):
    """Return the matrix without some rows and the same columns."""
    kept = [k for k in range(len(rows)) if k not in gone]
    return [[rows[i][j] for j in kept] for i in kept]


def times(rows, cycle):
    return tuple(sum(a * b for a, b in zip(row, cycle)) for row in rows)


def fraction(ratio):
    return Fraction(ratio[0], ratio[1])


def in_lowest_terms(ratio):
    """Tell whether a value is a ratio as the document tells it."""
    if type(ratio) is not tuple or [type(part) for part in ratio] != [int, int]:
        return False
    told = Fraction(ratio[0], ratio[1]) if ratio[1] > 0 else None
    return told is not None and (told.numerator, told.denominator) == ratio
