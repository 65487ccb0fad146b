"""Determinants of what is left of a tree without some places."""

from blowntrees.trees import neighbour_lists, walk


def left_product(tree, gone):
    """Return the product of the determinants of the trees that are left."""
    if not tree[0]:
        return 1
    return _folded(tree, 0, gone)[0][0]


def _folded(tree, root, gone):
    """Return the lists of the determinants behind places, with and without these.

    The leaves are folded in to the root without dividing: `whole` is the
    determinant of what lies at a place and behind it, `bare` that of the same
    without the place. Both grow as the neighbours behind are added one by one.
    """
    whole = [1 if place in gone else -weight for place, weight in enumerate(tree[0])]
    bare = [1] * len(whole)
    steps = walk(tree, root)
    for place, parent in reversed(steps):
        if parent < 0:
            continue
        whole[parent] *= whole[place]
        if place not in gone and parent not in gone:
            whole[parent] -= bare[parent] * bare[place]
        bare[parent] *= whole[place]
    return (whole, bare)


def folded_in(tree, root):
    """Return the list of the determinants of what lies at places and behind them.

    Behind is what is farther from the root.
    """
    return _folded(tree, root, ())[0]


def left_table(tree):
    """Return the matrix of what is left without the paths between places."""
    return [_left_row(tree, root) for root in range(len(tree[0]))]


def _left_row(tree, root):
    """Return what is left, place by place, without the path from the root."""
    whole, bare = _folded(tree, root, ())
    lists = neighbour_lists(tree)
    row = [1] * len(whole)
    beside = [1] * len(whole)
    parents = {}
    for place, parent in walk(tree, root):
        parents[place] = parent
        if parent >= 0:
            # Dividing by the determinant behind the place would be shorter,
            # but it may be 0.
            hanging = [whole[other] for other in lists[parent] if other not in (place, parents[parent])]
            beside[place] = beside[parent] * multiplied(hanging)
        row[place] = beside[place] * bare[place]
    return row


def multiplied(numbers):
    """Return the product of some numbers."""
    total = 1
    for number in numbers:
        total *= number
    return total


def left_times(lefts, row):
    """Return the matrix of `left_table` times a row."""
    return [dotted(line, row) for line in lefts]


def dotted(one, other):
    """Return the sum of the products of the entries of two rows."""
    return sum([entry * worth for entry, worth in zip(one, other)])
