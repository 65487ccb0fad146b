"""The texts of a tree from a place on."""

from blowntrees.trees import neighbour_lists, walk


def texts_from(tree, root):
    """Return the list of the texts of all places, when one comes from the root."""
    lists = neighbour_lists(tree)
    texts = [""] * len(lists)
    steps = walk(tree, root)
    for place, parent in reversed(steps):
        behind = sorted([texts[other] for other in lists[place] if other != parent])
        texts[place] = str(tree[0][place])
        if behind:
            texts[place] += "(" + " ".join(behind) + ")"
    return texts


def least_root(tree):
    """Return the least place from which the text is the least one.

    The tree is not empty.
    """
    best = 0
    least = texts_from(tree, 0)[0]
    for place in range(1, len(tree[0])):
        text = texts_from(tree, place)[place]
        if text < least:
            best = place
            least = text
    return best
