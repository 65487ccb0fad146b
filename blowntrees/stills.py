"""Still cycles: those that no step leads on from, and that are nowhere below 0."""

from blowntrees.blowing import blown_down, loose_places
from blowntrees.branches import check_smooth
from blowntrees.checks import check_below
from blowntrees.errors import TooMany
from blowntrees.heights import canonical_row, height
from blowntrees.lefts import multiplied
from blowntrees.moves import made
from blowntrees.rows import all_rows
from blowntrees.tables import row_of
from blowntrees.trees import neighbours

MOST_CYCLES = 2000


def is_still(tree, x):
    """Tell whether a cycle has no entry below 0, and its row none above 0."""
    check_below(tree)
    return _is_still(tree, x)


def _is_still(tree, x):
    return all([entry >= 0 for entry in x]) and all([entry <= 0 for entry in row_of(tree, x)])


def still_cycles(tree, most):
    """Return all still cycles with no entry above an integer, ascending."""
    check_below(tree)
    choices = [list(range(most + 1)) for _ in tree[0]]
    if multiplied([len(entries) for entries in choices]) > MOST_CYCLES:
        raise TooMany(MOST_CYCLES)
    return tuple([cycle for cycle in all_rows(choices) if _is_still(tree, cycle)])


def loss(tree, x):
    """Return the height of a still cycle over the canonical row."""
    return height(tree, canonical_row(tree), x)


def pulled_up(tree, move, x):
    """Return the cycle behind a move that has the same row, and 0 at a new place."""
    check_below(tree)
    # Only for the errors that the move raises.
    made(tree, move)
    if move[0] == "list":
        return tuple([x[place] for place in move[1]])
    return (*x, sum([x[place] for place in move[1:]]))


def shares(tree, x):
    """Return how often each branch row is taken to make a still cycle."""
    check_smooth(tree)
    return tuple([-entry for entry in row_of(tree, x)])


def point_row(tree, x):
    """Return what a cycle tells at each place of a smooth tree blown down."""
    check_smooth(tree)
    left = list(x)
    points = []
    while tree[0]:
        place = loose_places(tree)[-1]
        points.append(left[place] - sum([left[other] for other in neighbours(tree, place)]))
        tree = blown_down(tree, place)
        left.pop(place)
    return tuple(points)
