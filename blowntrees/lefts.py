"""Determinants of what is left of a tree without some places."""

from blowntrees.trees import walk


def left_product(tree, gone):
    """Return the product of the determinants of the trees that are left.

    The leaves are folded in without dividing: `whole` is the determinant of
    what lies at a place and behind it, `bare` that of the same without the
    place. Both grow as the neighbours behind are added one by one.
    """
    if not tree[0]:
        return 1
    whole = [1 if place in gone else -weight for place, weight in enumerate(tree[0])]
    bare = [1] * len(whole)
    steps = walk(tree, 0)
    for place, parent in reversed(steps):
        if parent < 0:
            continue
        whole[parent] *= whole[place]
        if place not in gone and parent not in gone:
            whole[parent] -= bare[parent] * bare[place]
        bare[parent] *= whole[place]
    return whole[0]
