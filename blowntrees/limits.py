"""How great a tree may be."""

from blowntrees.errors import TooGreat, TooMany

MOST_PLACES = 16
MOST_WEIGHT = 60


def limited(weights, ties):
    """Return the tree of some weights and ties, unless it is too great.

    The pairs of the ties are told with the lesser place first, in any
    sequence.
    """
    if len(weights) > MOST_PLACES:
        raise TooMany(MOST_PLACES)
    for weight in weights:
        if abs(weight) > MOST_WEIGHT:
            raise TooGreat(MOST_WEIGHT)
    return (tuple(weights), tuple(sorted(ties)))
