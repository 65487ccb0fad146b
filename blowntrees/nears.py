"""Near places, and the rows of heights that come from them."""

from blowntrees.checks import check_below
from blowntrees.errors import NotNear, TooMany
from blowntrees.heights import canonical_row
from blowntrees.lefts import dotted, left_table
from blowntrees.roots import root_of_row
from blowntrees.steps import Climb, unit_cycle
from blowntrees.tables import determinant

MOST_NEAR_STEPS = 5000
MOST_ROW_STEPS = 20000
MOST_ENTRIES = 500


def near_places(tree):
    """Return the near places, ascending."""
    check_below(tree)
    return tuple([place for place in range(len(tree[0])) if _is_near(tree, place, MOST_NEAR_STEPS)])


def _is_near(tree, place, limit):
    """Tell whether all steps elsewhere from the place alone meet the entry 1."""
    climb = Climb(tree, unit_cycle(tree, place))
    climb.step_on(place, limit)
    return all([entry == 1 for entry in climb.met])


def near_row(tree, place, count):
    """Return the heights of the first cycles that a near place leads to."""
    _check_near(tree, place)
    return _heights_from(tree, place, count)


def near_root(tree, place):
    """Return the root of the row of a near place, as far as it may fall."""
    _check_near(tree, place)
    # What stands here is minus the inverse times the canonical row.
    entry = dotted(left_table(tree)[place], canonical_row(tree))
    count = 1 + max(0, -(-entry // determinant(tree)))
    if count > MOST_ENTRIES:
        raise TooMany(MOST_ENTRIES)
    return root_of_row(_heights_from(tree, place, count))


def _check_near(tree, place):
    check_below(tree)
    if not _is_near(tree, place, MOST_ROW_STEPS):
        raise NotNear("the place is not near")


def _heights_from(tree, place, count):
    """Return the heights over the canonical row, worked out from step to step.

    Adding 1 to a cycle adds 1 less the entry of its row to its height.
    """
    climb = Climb(tree, (0,) * len(tree[0]))
    heights = [0]
    while len(heights) < count:
        done = len(climb.met)
        height = heights[-1] + 1 - climb.raise_at(place)
        climb.step_on(place, MOST_ROW_STEPS)
        heights.append(height + sum([1 - entry for entry in climb.met[done:]]))
    return tuple(heights)
