"""[2]: answers are of the listed kinds alone, arguments stay, answers repeat."""

import copy
import unittest

from blowntrees import listings, texts, trees
from blowntrees.errors import TreeError
from samples import EMPTY, FEW, row_tree, star, twigs

SOME = FEW + [twigs((-60,) * 16), star((60,) * 16), row_tree((-7,) * 16)]
VALUES = [None, [], [[1], [2]], ([1, 2], [(0, 1)]), ((1, 2), [[0, 1]]), {"a": [1]}, (((1,), [2]), ()),
          ((1, 2), ([0, 1],)), ((1, [2]), ()), EMPTY, ((1, 2), ((0, 1),))]


def calls_of_trees():
    """Yield functions with arguments, of all functions of the package."""
    for value in VALUES:
        yield trees.tree_breach, (value,)
        yield trees.check_tree, (value,)
    for text in ("", "1", "-2(-1(-3 -7))", "1(", "0(0 0 0)", "x"):
        yield texts.read_tree, (text,)
    for tree in SOME:
        for act in (trees.leaves, trees.joints, listings.least_listing, listings.least_form, texts.written):
            yield act, (tree,)
        many = len(tree[0])
        yield listings.listed, (tree, tuple(range(many))[::-1])
        for place in range(many):
            yield trees.neighbours, (tree, place)
            yield trees.path, (tree, place, many - 1 - place)


ALL_CALLS = [calls_of_trees]


def is_plain(value):
    """Tell whether a value is one of the kinds that are returned."""
    if type(value) is tuple:
        return all(is_plain(item) for item in value)
    return value is None or type(value) in (int, str, bool)


def outcome(act, arguments):
    try:
        return act(*arguments)
    except TreeError as error:
        return (type(error).__name__, tuple(vars(error).items()))


def same(one, other):
    """Compare values and kinds, so that True is not 1."""
    return repr(one) == repr(other)


class Answers(unittest.TestCase):
    def test_kinds_arguments_and_repetition(self):
        count = 0
        for calls in ALL_CALLS:
            for act, arguments in calls():
                kept = copy.deepcopy(arguments)
                first = outcome(act, arguments)
                self.assertTrue(is_plain(first), (act, arguments))
                self.assertTrue(same(kept, arguments), (act, kept))
                self.assertTrue(same(outcome(act, kept), first), (act, arguments))
                count += 1
        self.assertGreater(count, 1000)


if __name__ == "__main__":
    unittest.main()
