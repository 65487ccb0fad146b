"""How loops link with each other, and what blowing up does to them."""

from blowntrees.checks import checked_determinant
from blowntrees.lefts import dotted, left_table, left_times
from blowntrees.loops import all_loops
from blowntrees.moves import made
from blowntrees.ratios import ratio


def linking(tree, one, other):
    """Return the ratio, from 0 up to but not 1, by which two loops link."""
    whole = checked_determinant(tree)
    a, b = ratio(dotted(one, left_times(left_table(tree), other)), whole)
    return (a % b, b)


def linking_row(tree):
    """Return the linkings of all loops with themselves, by size."""
    loops = all_loops(tree)
    whole = checked_determinant(tree)
    # With the sign of the determinant taken over, all have one denominator.
    limit = abs(whole)
    sign = whole // limit
    lefts = left_table(tree)
    parts = [sign * dotted(loop, left_times(lefts, loop)) % limit for loop in loops]
    return tuple([ratio(part, limit) for part in sorted(parts)])


def blown_row(tree, move, row):
    """Return the row that stands for the same loop behind a move."""
    if move[0] == "list":
        return tuple([row[place] for place in move[1]])
    new = made(tree, move)
    return tuple(row) + (0,) * (len(new[0]) - len(row))
