"""Lists of all trees of some places, with weights between two bounds."""

from blowntrees.cycles import is_rational
from blowntrees.errors import TooMany
from blowntrees.lefts import multiplied
from blowntrees.listings import least_form
from blowntrees.rows import all_rows
from blowntrees.tables import determinant, is_below

MOST_TREES = 2000


def shapes(n):
    """Return the least forms of all trees of n places of the weight 0, ascending."""
    found = (((), ()),)
    for _ in range(n):
        found = _forms([longer for tree in found for longer in _longer_shapes(tree)])
    return found


def _longer_shapes(tree):
    """Return the trees that come when a last place of the weight 0 is added."""
    weights, ties = tree
    new = len(weights)
    if new == 0:
        return [((0,), ())]
    return [((0,) * (new + 1), tuple(sorted([*ties, (place, new)]))) for place in range(new)]


def _forms(trees):
    """Return the least forms of some trees, each one once, ascending."""
    found = {least_form(tree): True for tree in trees}
    return tuple(sorted(found))


def trees_between(n, low, high):
    """Return the least forms of all trees of n places with bounded weights, ascending."""
    shaped = shapes(n)
    choices = [list(range(low, high + 1)) for _ in range(n)]
    if multiplied([len(shaped)] + [len(weights) for weights in choices]) > MOST_TREES:
        raise TooMany(MOST_TREES)
    rows = all_rows(choices)
    return _forms([(row, ties) for _, ties in shaped for row in rows])


def rational_trees(n, low):
    """Return those trees with weights from low to -2 that are below zero and rational."""
    trees = trees_between(n, low, -2)
    return tuple([tree for tree in trees if is_below(tree) and is_rational(tree)])


def unimodular_trees(n, low, high):
    """Return those trees between two bounds whose determinant is 1 or -1."""
    trees = trees_between(n, low, high)
    return tuple([tree for tree in trees if abs(determinant(tree)) == 1])
