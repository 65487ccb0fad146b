"""Roots: how parts come and grow together from height to height."""

from blowntrees.boxes import check_box
from blowntrees.floods import Flood
from blowntrees.parts import Parts


def root_by_rows(tree, k):
    """Return the root of all rows of the class of a marked row."""
    check_box(tree)
    return Flood(tree, k).risen_root()


def rank_left(root):
    """Return the sum over the heights of the number of parts less 1."""
    # Each root counts from its height up to that of the root it lies in, and
    # one part is left out below the greatest height.
    total = -root[0]
    left = [root]
    while left:
        height, roots = left.pop()
        for inner in roots:
            total += height - inner[0]
            left.append(inner)
    return total


def root_of_row(heights):
    """Return the root of the places of a row, each there from its entry on."""
    least = min(heights)
    parts = Parts()
    numbers = {}
    order = sorted([(entry, place) for place, entry in enumerate(heights)])
    for at, (entry, place) in enumerate(order):
        numbers[place] = parts.bring()
        for other in (place - 1, place + 1):
            if other in numbers:
                parts.tie(numbers[place], numbers[other])
        if at + 1 == len(order) or order[at + 1][0] > entry:
            parts.settle(entry - least)
    return parts.root()
