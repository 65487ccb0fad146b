"""The table of a tree, its determinant and its signs; cycles."""

from math import lcm

from blowntrees.lefts import left_product
from blowntrees.ratios import less_inverse, ratio
from blowntrees.trees import walk


def table(tree):
    """Return the table of a tree as a tuple of its rows."""
    weights, ties = tree
    rows = [[0] * len(weights) for _ in range(len(weights))]
    for place, weight in enumerate(weights):
        rows[place][place] = weight
    for i, j in ties:
        rows[i][j] = 1
        rows[j][i] = 1
    return tuple([tuple(row) for row in rows])


def determinant(tree):
    """Return the determinant of the table with all signs exchanged."""
    return left_product(tree, ())


def signs(tree):
    """Return how many places come out above zero, at zero and below zero."""
    if not tree[0]:
        return (0, 0, 0)
    numbers = [(weight, 1) for weight in tree[0]]
    noughts = [0] * len(numbers)
    above = level = below = 0
    steps = walk(tree, 0)
    for place, parent in reversed(steps):
        if noughts[place] > 0:
            # The place and one of the noughts behind it make one above and
            # one below zero, whatever the place bears; what is left of the
            # tree does not see them, and the other noughts stay.
            above += 1
            below += 1
            level += noughts[place] - 1
            continue
        worth = numbers[place][0]
        if worth > 0:
            above += 1
        elif worth < 0:
            below += 1
        elif parent < 0:
            level += 1
        else:
            noughts[parent] += 1
        if worth != 0 and parent >= 0:
            numbers[parent] = less_inverse(numbers[parent], numbers[place])
    return (above, level, below)


def is_below(tree):
    """Tell whether a tree is below zero."""
    above, level, _ = signs(tree)
    return above == 0 and level == 0


def folds(tree, root):
    """Return what comes at each place when the leaves are folded in to the root.

    A place with 0 or None behind it has None.
    """
    numbers = [(weight, 1) for weight in tree[0]]
    steps = walk(tree, root)
    for place, parent in reversed(steps):
        if parent < 0 or numbers[parent] is None:
            continue
        if numbers[place] is None or numbers[place][0] == 0:
            numbers[parent] = None
        else:
            numbers[parent] = less_inverse(numbers[parent], numbers[place])
    return tuple(numbers)


def row_of(tree, cycle):
    """Return the row of a cycle: the table times it."""
    row = [weight * entry for weight, entry in zip(tree[0], cycle)]
    for i, j in tree[1]:
        row[i] += cycle[j]
        row[j] += cycle[i]
    return tuple(row)


def product(tree, one, other):
    """Return the product of two cycles."""
    return sum([entry * worth for entry, worth in zip(one, row_of(tree, other))])


def not_below(tree):
    """Return a cycle that shows that a tree is not below zero, or None.

    Its product with itself is at least 0, and it is not all 0.
    """
    if not tree[0]:
        return None
    numbers = folds(tree, 0)
    for place, number in enumerate(numbers):
        if number is not None and number[0] >= 0:
            return _cycle_behind(tree, place, numbers)
    return None


def _cycle_behind(tree, top, numbers):
    """Return a cycle whose row is 0 behind a place, and that is 0 elsewhere.

    The numbers are those folded in to the place 0. The product of the cycle
    with itself has the sign of the number at the place.
    """
    entries = {top: (1, 1)}
    for place, parent in walk(tree, 0):
        if parent in entries:
            a, b = entries[parent]
            c, d = numbers[place]
            entries[place] = ratio(-a * d, b * c)
    common = 1
    for _, b in entries.values():
        common = lcm(common, b)
    cycle = [0] * len(tree[0])
    for place, (a, b) in entries.items():
        cycle[place] = a * (common // b)
    return tuple(cycle)
