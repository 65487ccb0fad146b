"""Trees blown up and down, and places of the weight 0 taken out."""

from blowntrees.errors import NotLoose, NotNought
from blowntrees.limits import limited
from blowntrees.trees import neighbour_lists, neighbours, tie_of


def blown_at(tree, place):
    """Return the tree with a new last place of the weight -1 at a place."""
    weights, ties = tree
    return limited(_lessened(weights, (place,)), [*ties, (place, len(weights))])


def blown_on(tree, tie):
    """Return the tree with a new last place of the weight -1 on a tie."""
    weights, ties = tree
    i, j = tie
    kept = [other for other in ties if other != tie]
    new = len(weights)
    return limited(_lessened(weights, tie), [*kept, (i, new), (j, new)])


def _lessened(weights, places):
    """Return the weights with 1 less at some places, and a new one of -1."""
    changed = [*weights, -1]
    for place in places:
        changed[place] -= 1
    return changed


def blown_down(tree, place):
    """Return the tree without a loose place."""
    weights, ties = tree
    near = neighbours(tree, place)
    if weights[place] != -1 or len(near) > 2:
        raise NotLoose("the place cannot be blown down")
    raised = list(weights)
    for other in near:
        raised[other] += 1
    kept = [tie for tie in ties if place not in tie]
    if len(near) == 2:
        kept.append(near)
    return _without(raised, kept, (place,))


def nought_out(tree, place):
    """Return the tree without a place of the weight 0 between two neighbours.

    The two neighbours become one place.
    """
    weights, ties = tree
    near = neighbours(tree, place)
    if weights[place] != 0 or len(near) != 2:
        raise NotNought("the place is none of the weight 0 between two others")
    lesser, greater = near
    summed = list(weights)
    summed[lesser] += summed[greater]
    kept = [tie for tie in ties if place not in tie and greater not in tie]
    for other in neighbours(tree, greater):
        if other != place:
            kept.append(tie_of(lesser, other))
    return _without(summed, kept, (place, greater))


def _without(weights, ties, gone):
    """Return the tree without some places, on which no ties are left."""
    kept = [place for place in range(len(weights)) if place not in gone]
    number = {place: at for at, place in enumerate(kept)}
    renumbered = [(number[i], number[j]) for i, j in ties]
    return limited([weights[place] for place in kept], renumbered)


def loose_places(tree):
    """Return the places of the weight -1 with at most two neighbours."""
    lists = neighbour_lists(tree)
    return tuple([place for place, near in enumerate(lists) if tree[0][place] == -1 and len(near) <= 2])
