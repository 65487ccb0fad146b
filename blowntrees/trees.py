"""What a value must be to be a tree, and how the places of a tree lie."""

from blowntrees.errors import NotTree
from blowntrees.limits import MOST_PLACES, MOST_WEIGHT


def tree_breach(value):
    """Return the first broken rule with its place, or None for a tree."""
    if not _has_form(value):
        return ("form", -1)
    weights, ties = value
    for place, weight in enumerate(weights):
        if not _is_weight(weight):
            return ("weight", place)
    for index, tie in enumerate(ties):
        if not _is_pair(tie, len(weights)):
            return ("tie", index)
        if index > 0 and tie <= ties[index - 1]:
            return ("tie", index)
    return _hanging_breach(ties, len(weights))


def check_tree(value):
    """Return the value if it is a tree."""
    breach = tree_breach(value)
    if breach is not None:
        raise NotTree(breach[0], breach[1])
    return value


def _has_form(value):
    if not isinstance(value, tuple) or len(value) != 2:
        return False
    if not isinstance(value[0], tuple) or not isinstance(value[1], tuple):
        return False
    return len(value[0]) <= MOST_PLACES


def is_whole(value):
    """Tell whether a value is an integer."""
    # For Python True and False are integers, for this package they are not.
    return isinstance(value, int) and not isinstance(value, bool)


def _is_weight(value):
    return is_whole(value) and -MOST_WEIGHT <= value <= MOST_WEIGHT


def _is_pair(value, many):
    """Tell whether a value is a pair (i, j) with 0 <= i < j < many."""
    if not isinstance(value, tuple) or len(value) != 2:
        return False
    i, j = value
    return is_whole(i) and is_whole(j) and 0 <= i < j < many


def _hanging_breach(ties, many):
    """Return the breach of places that hang together twice or not at all."""
    parts = list(range(many))
    for index, (i, j) in enumerate(ties):
        if parts[i] == parts[j]:
            return ("ring", index)
        parts = _joined(parts, parts[i], parts[j])
    for place, part in enumerate(parts):
        if part != parts[0]:
            return ("apart", place)
    return None


def _joined(parts, kept, lost):
    return [kept if part == lost else part for part in parts]


def neighbour_lists(tree):
    """Return for each place the list of its neighbours, ascending."""
    lists = [[] for _ in range(len(tree[0]))]
    # The ties ascend: the lesser neighbours of a place come from ties ahead
    # of those that begin with it, so each list ascends without sorting.
    for i, j in tree[1]:
        lists[i].append(j)
        lists[j].append(i)
    return lists


def neighbours(tree, place):
    """Return the neighbours of a place, ascending."""
    return tuple(neighbour_lists(tree)[place])


def leaves(tree):
    """Return the places with at most one neighbour, ascending."""
    lists = neighbour_lists(tree)
    return tuple([place for place, near in enumerate(lists) if len(near) <= 1])


def joints(tree):
    """Return the places with at least three neighbours, ascending."""
    lists = neighbour_lists(tree)
    return tuple([place for place, near in enumerate(lists) if len(near) >= 3])


def walk(tree, root):
    """Return the list of the pairs (place, parent), from the root outward.

    The parent is the neighbour nearer to the root; the root has -1.
    """
    lists = neighbour_lists(tree)
    steps = [(root, -1)]
    at = 0
    while at < len(steps):
        place, parent = steps[at]
        steps.extend([(other, place) for other in lists[place] if other != parent])
        at += 1
    return steps


def path(tree, i, j):
    """Return the places from i to j along ties, with both ends."""
    toward = dict(walk(tree, j))
    places = [i]
    while places[-1] != j:
        places.append(toward[places[-1]])
    return tuple(places)


def tie_of(i, j):
    """Return the pair of two places with the lesser one first."""
    if i < j:
        return (i, j)
    return (j, i)
