"""Sums that are told as even or odd."""


class Parities:
    """The rows of 0 and 1 whose sums with given rows are even or odd as told.

    `told` has for each column that the free ones leave no choice the row, with
    a last entry for its right side, in which it stands among free ones alone.
    There is at least one row.
    """

    def __init__(self, rows, rights):
        left = [[entry % 2 for entry in row] + [right % 2] for row, right in zip(rows, rights)]
        self.told = {}
        self.free = []
        for column in range(len(rows)):
            chosen = [at for at, row in enumerate(left) if row[column] == 1]
            if not chosen:
                self.free.append(column)
                continue
            base = left.pop(chosen[0])
            left = [_cleared(row, base, column) for row in left]
            self.told = {other: _cleared(row, base, column) for other, row in self.told.items()}
            self.told[column] = base

    def whole_row(self, entries):
        """Return the row that has some entries at the free columns."""
        row = [0] * (len(self.free) + len(self.told))
        for column, entry in zip(self.free, entries):
            row[column] = entry
        for column, base in self.told.items():
            row[column] = (base[-1] + sum([base[other] * row[other] for other in self.free])) % 2
        return tuple(row)


def _cleared(row, base, column):
    """Return a row with 0 at a column, with another one added if it must be."""
    if row[column] == 0:
        return row
    return [(entry + other) % 2 for entry, other in zip(row, base)]
