"""Cycles without steps above them, least cycles, and rational trees."""

from blowntrees.checks import check_below
from blowntrees.errors import NotRational, NotSteps, TooMany
from blowntrees.heights import canonical_row, height
from blowntrees.steps import Climb, unit_cycle
from blowntrees.tables import product
from blowntrees.trees import is_whole

MOST_STEPS = 5000
NOWHERE = -1


def above(tree, x):
    """Return the cycle that comes when steps are done as long as there is one."""
    return tuple(_climbed(tree, x).cycle)


def steps_above(tree, x):
    """Return the places of the steps, the least one that may be each time."""
    return tuple(_climbed(tree, x).places)


def _climbed(tree, x):
    """Return the climb from a cycle when all steps are done."""
    check_below(tree)
    climb = Climb(tree, x)
    climb.step_on(NOWHERE, MOST_STEPS)
    return climb


def step_values(tree, x, places):
    """Return the entries above 0 that the steps of a tuple of places meet."""
    check_below(tree)
    if not isinstance(places, tuple):
        raise NotSteps(-1)
    if len(places) > MOST_STEPS:
        raise TooMany(MOST_STEPS)
    climb = Climb(tree, x)
    for index, place in enumerate(places):
        if not _may_step(climb, place):
            raise NotSteps(index)
        climb.step_at(place)
    if climb.least_step(NOWHERE) != NOWHERE:
        raise NotSteps(len(places))
    return tuple(climb.met)


def _may_step(climb, place):
    if not is_whole(place) or not 0 <= place < len(climb.row):
        return False
    return climb.row[place] > 0


def least_cycle(tree):
    """Return the least cycle of a tree, and () for the empty tree."""
    if not tree[0]:
        return ()
    return above(tree, unit_cycle(tree, 0))


def is_rational(tree):
    """Tell whether a tree is empty, or its least cycle has the height 1."""
    least = least_cycle(tree)
    return not tree[0] or height(tree, canonical_row(tree), least) == 1


def multiplicity(tree):
    """Return minus the product of the least cycle of a rational tree with itself."""
    if not is_rational(tree) or not tree[0]:
        raise NotRational("the tree is empty or not rational")
    least = least_cycle(tree)
    return -product(tree, least, least)
