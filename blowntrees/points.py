"""Points of branches: the numbers that tell how a place was blown up."""

from blowntrees.blowing import blown_at, blown_on
from blowntrees.branches import branch_row
from blowntrees.errors import NotPoints
from blowntrees.limits import MOST_PLACES
from blowntrees.stills import point_row
from blowntrees.trees import is_whole


def points_of(tree, place):
    """Return the points of a place of a smooth tree, from the greatest one down."""
    points = point_row(tree, branch_row(tree, place))
    return tuple(sorted([point for point in points if point > 0], reverse=True))


def tree_of_points(points):
    """Return a smooth tree and a place that has any value as its points."""
    if not _has_form(points):
        raise NotPoints(-1)
    reaches = [_reach(points, index) for index in range(len(points))]
    bases = _bases(reaches)
    tree = ((-1,), ())
    for index in range(1, len(points)):
        if bases[index]:
            tree = blown_on(tree, (bases[index][0], index - 1))
        else:
            tree = blown_at(tree, index - 1)
    return (tree, len(points) - 1)


def _has_form(value):
    if not isinstance(value, tuple) or not 1 <= len(value) <= MOST_PLACES:
        return False
    return all([is_whole(entry) and entry >= 1 for entry in value])


def _reach(points, index):
    """Return how many entries behind an entry have it as their sum.

    The last entry has none behind it, and must be 1.
    """
    last = len(points) - 1
    if index == last and points[index] == 1:
        return 0
    total = 0
    at = index
    while total < points[index] and at < last:
        at += 1
        total += points[at]
    if total != points[index]:
        raise NotPoints(index)
    return at - index


def _bases(reaches):
    """Return for each entry the entries that it is near, but for the one ahead."""
    bases = []
    for j in range(len(reaches)):
        near = [i for i in range(j - 1) if j <= i + reaches[i]]
        if len(near) > 1:
            raise NotPoints(j)
        bases.append(near)
    return bases
