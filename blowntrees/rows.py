"""Rows of integers."""


def all_rows(choices):
    """Return all rows with one integer out of each of some lists.

    They ascend if the lists do.
    """
    rows = [()]
    for entries in choices:
        rows = [row + (entry,) for row in rows for entry in entries]
    return tuple(rows)
