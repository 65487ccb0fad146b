"""Rows of cycles: a basis of them in steps, and what they leave apart."""

from math import gcd, lcm

from blowntrees.checks import checked_determinant
from blowntrees.tables import table


def row_basis(tree):
    """Return rows of cycles of which all rows of cycles are sums.

    There is one for each place: it is 0 ahead of the place and above 0 there.
    It raises Nought if the determinant is 0.
    """
    # Every row of multiples of the determinant is the row of a cycle. To begin
    # with these lets all entries be told modulo the determinant, so that none
    # of them grows beyond it.
    limit = abs(checked_determinant(tree))
    many = len(tree[0])
    basis = [[limit if place == other else 0 for other in range(many)] for place in range(many)]
    for row in table(tree):
        left = [entry % limit for entry in row]
        for place in range(many):
            basis[place], left = _brought_together(basis[place], left, place, limit)
    return basis


def _brought_together(base, row, place, limit):
    """Return two rows in place of two, of which the second one is 0 at a place."""
    while row[place] != 0:
        times = base[place] // row[place]
        rest = [(entry - times * other) % limit for entry, other in zip(base, row)]
        base, row = row, rest
    return (base, row)


def told_row(row, basis, times):
    """Return the least row that differs by rows of cycles taken some times.

    From place 0 on, each entry is made the least one of at least 0.
    """
    told = list(row)
    for place, base in enumerate(basis):
        told = with_entry(told, base, place, told[place] % (times * base[place]))
    return tuple(told)


def with_entry(row, base, place, entry):
    """Return a row with a multiple of another one added, to have a given entry."""
    times = (entry - row[place]) // base[place]
    return [worth + times * other for worth, other in zip(row, base)]


def diagonal(rows, limit):
    """Return integers that stand for the loops of a square matrix.

    Adding multiples of rows and of columns leaves the loops as they are; so
    does adding multiples of the limit, with which all loops are zeros.
    """
    rows = [[entry % limit for entry in row] for row in rows]
    numbers = []
    while rows:
        i, j = _least_entry(rows)
        if rows[i][j] == 0:
            return numbers + [limit] * len(rows)
        rows = _lessened_rows(rows, i, j, limit)
        if any([row[j] != 0 for at, row in enumerate(rows) if at != i]):
            continue
        # The column is 0 elsewhere: adding it to others changes one row alone.
        least = rows[i][j]
        rows[i] = [entry if at == j else entry % least for at, entry in enumerate(rows[i])]
        if any([entry != 0 for at, entry in enumerate(rows[i]) if at != j]):
            continue
        numbers.append(gcd(least, limit))
        rows = [row[:j] + row[j + 1:] for at, row in enumerate(rows) if at != i]
    return numbers


def _least_entry(rows):
    """Return where the least entry above 0 stands, or (0, 0) if there is none."""
    best = (0, 0)
    for i, row in enumerate(rows):
        for j, entry in enumerate(row):
            least = rows[best[0]][best[1]]
            if entry != 0 and (least == 0 or entry < least):
                best = (i, j)
    return best


def _lessened_rows(rows, i, j, limit):
    """Return rows whose entries in a column are less than that of the row i."""
    lessened = []
    for at, row in enumerate(rows):
        times = 0 if at == i else row[j] // rows[i][j]
        lessened.append([(entry - times * other) % limit for entry, other in zip(row, rows[i])])
    return lessened


def dividing(numbers):
    """Return integers for the same loops, each of which divides the next one."""
    told = list(numbers)
    many = len(told)
    for i in range(many):
        for j in range(i + 1, many):
            told[i], told[j] = gcd(told[i], told[j]), lcm(told[i], told[j])
    return told
