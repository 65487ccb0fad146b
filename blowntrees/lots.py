"""Lots of places that meet every place rightly, and their numbers."""

from blowntrees.errors import TooMany
from blowntrees.lefts import multiplied
from blowntrees.parities import Parities
from blowntrees.rows import all_rows
from blowntrees.tables import product, signs, table

MOST_LOTS = 400


def right_lots(tree):
    """Return all lots whose rows are even or odd as the weights are, ascending."""
    parities = Parities(table(tree), tree[0])
    choices = [[0, 1] for _ in parities.free]
    if multiplied([len(entries) for entries in choices]) > MOST_LOTS:
        raise TooMany(MOST_LOTS)
    lots = []
    for entries in all_rows(choices):
        cycle = parities.whole_row(entries)
        lots.append(tuple([place for place, entry in enumerate(cycle) if entry == 1]))
    return tuple(sorted(lots))


def lot_number(tree, lot):
    """Return p - m of the signs less the product of the cycle of a lot with itself."""
    above, _, below = signs(tree)
    cycle = [1 if place in lot else 0 for place in range(len(tree[0]))]
    return above - below - product(tree, cycle, cycle)


def lot_numbers(tree):
    """Return the numbers of all right lots, ascending, as often as they come."""
    return tuple(sorted([lot_number(tree, lot) for lot in right_lots(tree)]))


def middle_height(root):
    """Return the height of the last root on the way inward by odd ones alone.

    The way goes on as long as just one of the roots in a root, equal ones
    taken as one, stands there an odd number of times.
    """
    heights, insides = _laid_out(root)
    kinds = _kinds(heights, insides)
    at = 0
    odd = _odd_ones(insides[at], kinds)
    while len(odd) == 1:
        at = odd[0]
        odd = _odd_ones(insides[at], kinds)
    return heights[at]


def _laid_out(root):
    """Return the heights of all roots, and the lists of the numbers of those inside.

    The root itself has the number 0, and each other one a greater number than
    the one that it lies in.
    """
    left = [root]
    insides = []
    while len(insides) < len(left):
        roots = left[len(insides)][1]
        insides.append(list(range(len(left), len(left) + len(roots))))
        left.extend(roots)
    return ([height for height, _ in left], insides)


def _kinds(heights, insides):
    """Return for each root a number that equal ones alone have in common.

    Roots may be nested too deeply to be compared as they stand.
    """
    told = {}
    kinds = [0] * len(heights)
    for at in reversed(range(len(heights))):
        key = (heights[at], tuple([kinds[inner] for inner in insides[at]]))
        kinds[at] = told.setdefault(key, len(told))
    return kinds


def _odd_ones(inside, kinds):
    """Return one root of each kind that stands inside an odd number of times."""
    times = {}
    last = {}
    for inner in inside:
        times[kinds[inner]] = times.get(kinds[inner], 0) + 1
        last[kinds[inner]] = inner
    return [last[kind] for kind, many in times.items() if many % 2 == 1]
