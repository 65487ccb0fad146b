"""Trees written as strings, and read from them."""

from blowntrees.errors import NotText
from blowntrees.limits import MOST_PLACES, MOST_WEIGHT
from blowntrees.listings import least_form
from blowntrees.rooted import least_root, texts_from


def written(tree):
    """Return the least text of a tree."""
    if not tree[0]:
        return ""
    root = least_root(tree)
    return texts_from(tree, root)[root]


def read_tree(text):
    """Return the least form of the tree that a text tells."""
    if text == "":
        return ((), ())
    told = {str(weight): weight for weight in range(-MOST_WEIGHT, MOST_WEIGHT + 1)}
    weights = []
    ties = []
    parents = []
    at = 0
    while parents or not weights:
        end = _weight_end(text, at, told)
        if parents:
            ties.append((parents[-1], len(weights)))
        weights.append(told[text[at:end]])
        at = _next_weight(text, end, parents, len(weights))
    return least_form((tuple(weights), tuple(sorted(ties))))


def _weight_end(text, at, told):
    """Return where the weight ends that must stand at a place."""
    end = at
    # All beginnings of weights but the lone minus are weights themselves, so
    # the weight goes on as long as it is one.
    while end < len(text) and _begins_weight(text[at:end + 1], told):
        end += 1
    if text[at:end] not in told:
        raise NotText(end)
    return end


def _begins_weight(piece, told):
    return piece == "-" or piece in told


def _next_weight(text, at, parents, many):
    """Return where the weight behind the one that ends here must begin.

    The end of the text is returned if the text ends rightly. `parents` lists
    the places whose parentheses are open; it is kept up to date. `many`
    weights are told: if there may be no more of them, no sign may stand
    behind which there must be one.
    """
    room = many < MOST_PLACES
    if room and text.startswith("(", at):
        parents.append(many - 1)
        return at + 1
    while parents and text.startswith(")", at):
        parents.pop()
        at += 1
    if not parents and at == len(text):
        return at
    if parents and room and text.startswith(" ", at):
        return at + 1
    raise NotText(at)
