"""Trees whose places are numbered otherwise."""

from blowntrees.rooted import least_root, texts_from
from blowntrees.trees import neighbour_lists, tie_of


def listed(tree, listing):
    """Return the tree whose place k is the place listing[k]."""
    weights, ties = tree
    number = {place: at for at, place in enumerate(listing)}
    renumbered = sorted([tie_of(number[i], number[j]) for i, j in ties])
    return (tuple([weights[place] for place in listing]), tuple(renumbered))


def least_listing(tree):
    """Return the least listing that leads to the least form.

    It goes through the places as their weights stand in the least text. Where
    several places have the same text, each of them may come first, and what
    follows is alike; so the least one is taken.
    """
    if not tree[0]:
        return ()
    root = least_root(tree)
    texts = texts_from(tree, root)
    lists = neighbour_lists(tree)
    listing = []
    waiting = [(root, -1)]
    while waiting:
        place, parent = waiting.pop()
        listing.append(place)
        behind = sorted([(texts[other], other) for other in lists[place] if other != parent])
        for _, other in reversed(behind):
            waiting.append((other, place))
    return tuple(listing)


def least_form(tree):
    """Return the tree numbered as its weights stand in its least text."""
    return listed(tree, least_listing(tree))
