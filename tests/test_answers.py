"""[2]: answers are of the listed kinds alone, arguments stay, answers repeat."""

import copy
import unittest

from blowntrees import (blowing, branches, chains, classes, cycles, heights, inverses, linkings, listings, lists, loops,
                        lots, nears, points, roots, sames, splits, stars, stills, sums, tables, texts, trees)
from blowntrees.errors import TreeError
from belows import BASES, LESS_LONG, LONG, NONE_NEAR, NOT_BELOW, SEVEN
from samples import E8, EMPTY, FEW, row_tree, star, twigs
from test_branches import JUST, LITTLE, OVER, ROUGH
from test_interface import INTERFACE
from test_stars import LOW, NOT_APART, STARS

SOME = FEW + [twigs((-60,) * 16), star((60,) * 16), row_tree((-7,) * 16)]
VALUES = [None, [], [[1], [2]], ([1, 2], [(0, 1)]), ((1, 2), [[0, 1]]), {"a": [1]}, (((1,), [2]), ()),
          ((1, 2), ([0, 1],)), ((1, [2]), ()), EMPTY, ((1, 2), ((0, 1),))]


def calls_of_trees():
    """Yield functions with arguments, of all functions of the package."""
    for value in VALUES:
        yield trees.tree_breach, (value,)
        yield trees.check_tree, (value,)
    for text in ("", "1", "-2(-1(-3 -7))", "1(", "0(0 0 0)", "x"):
        yield texts.read_tree, (text,)
    for tree in SOME:
        for act in (trees.leaves, trees.joints, listings.least_listing, listings.least_form, texts.written):
            yield act, (tree,)
        many = len(tree[0])
        yield listings.listed, (tree, tuple(range(many))[::-1])
        for place in range(many):
            yield trees.neighbours, (tree, place)
            yield trees.path, (tree, place, many - 1 - place)


def calls_of_tables():
    for tree in SOME:
        many = len(tree[0])
        for act in (tables.table, tables.determinant, tables.signs, tables.is_below, tables.not_below):
            yield act, (tree,)
        cycle = tuple((-3) ** place for place in range(many))
        yield tables.row_of, (tree, cycle)
        yield tables.product, (tree, cycle, cycle[::-1])
        yield inverses.inverse, (tree,)
        yield inverses.left_determinant, (tree, tuple(range(1, many, 2)) * 2)
        for place in range(many):
            yield tables.folds, (tree, place)


def calls_of_chains():
    for chain in ((2,), (60,), (61,), (2, 3, 4), (2,) * 16, (3,) * 16, (10 ** 30, 2)):
        for act in (chains.chain_tree, chains.chain_number, chains.other_side, chains.chain_loops):
            yield act, (chain,)
        yield chains.chain_of, (chains.chain_number(chain),)


def calls_of_blowing():
    for tree in SOME:
        yield blowing.loose_places, (tree,)
        for place in range(len(tree[0])):
            for act in (blowing.blown_at, blowing.blown_down, blowing.nought_out):
                yield act, (tree, place)
        for tie in tree[1]:
            yield blowing.blown_on, (tree, tie)


MOVES = [(), [], None, [("at", 0)], (["at", 0],), (("at", 0), ("list", [1, 0])), (("new",),), (("down", 0), {"a": [1]}),
         (("at", 0), ("at", 0), ("on", 0, 1)), (("list", (1, 0)),), "at"]


def calls_of_sames():
    for tree in SOME:
        yield sames.least_tree, (tree,)
        for moves in MOVES:
            yield sames.moved, (tree, moves)
        for other in (EMPTY, E8, tree):
            yield sames.are_same, (tree, other)
            yield sames.moves_between, (tree, other)


def calls_of_loops():
    for tree in SOME:
        row = tuple((-7) ** place for place in range(len(tree[0])))
        for act in (loops.all_loops, loops.loop_sizes, linkings.linking_row):
            yield act, (tree,)
        for act in (loops.loop_of, loops.loop_order):
            yield act, (tree, row)
        yield linkings.linking, (tree, row, row[::-1])
        yield linkings.blown_row, (tree, ("list", tuple(range(len(row)))[::-1]), row)
        for place in range(len(row)):
            yield linkings.blown_row, (tree, ("at", place), row)
        for i, j in tree[1]:
            yield linkings.blown_row, (tree, ("on", i, j), row)


def calls_below_zero():
    for tree in FEW[::2] + BASES + NONE_NEAR + NOT_BELOW + [LONG, LESS_LONG]:
        many = len(tree[0])
        k = tuple(weight + 2 * (-3) ** place for place, weight in enumerate(tree[0]))
        x = tuple((-1) ** place * place for place in range(many))
        for act in (heights.canonical_row, heights.standing, classes.all_classes, cycles.least_cycle,
                    cycles.is_rational, cycles.multiplicity, nears.near_places):
            yield act, (tree,)
        for act in (heights.is_marked, heights.square, classes.class_of, classes.level, classes.lowest,
                    classes.lowest_rows, roots.root_by_rows):
            yield act, (tree, k)
        yield heights.is_marked, (tree, x)
        yield heights.height, (tree, k, x)
        yield heights.carried, (tree, k, x)
        for act in (cycles.above, cycles.steps_above):
            yield act, (tree, x)
        for places in ((), (0, 1), (1, 0), (0,) * 5001, (None,)):
            yield cycles.step_values, (tree, x, places)
        for place in range(many):
            yield nears.near_row, (tree, place, 5)
            yield nears.near_root, (tree, place)


def calls_of_roots():
    for row in ((0,), (1, 0, 1), (0, 1, 0), (5, -2, 7, -3, 7, 7, -2) * 9, tuple(range(500))):
        yield roots.root_of_row, (row,)
        yield roots.rank_left, (roots.root_of_row(row),)
    yield cycles.step_values, (SEVEN, (1, 0, 0, 0), cycles.steps_above(SEVEN, (1, 0, 0, 0)))


def calls_of_stars():
    for told in STARS[:20] + LOW[:20] + [(-1, ((2, 1), (3, 1), (18, 17))), (0, ((61, 1),) * 3), (0, ((17, 16),) * 3)]:
        yield stars.star_tree, (told,)
        yield stars.star_sum, (told,)
        for count in (1, 2, 30):
            yield stars.star_row, (told, count)
    for tree in SOME:
        yield stars.star_of, (tree,)
    for value in NOT_APART + [(2, 3, 5), (5, 2, 3), (2, 3, 5, 7, 11, 13), (10 ** 30, 3, 7)]:
        yield stars.sphere_star, (value,)
    for numbers in ((2, 3, 5), (7, 3, 2), (2, 3, 4), (0, 1, -2), (3, 59, 113), (10 ** 30, 3, 7)):
        yield stars.corner_sum, numbers


def calls_of_lots():
    for tree in SOME + [star((0,) * 10)]:
        yield lots.right_lots, (tree,)
        yield lots.lot_numbers, (tree,)
        yield lots.lot_number, (tree, tuple(range(0, len(tree[0]), 2)))
        for place in range(len(tree[0])):
            yield splits.side_numbers, (tree, place)
        for tie in tree[1]:
            yield splits.cut_at, (tree, tie)
        if tree[0]:
            yield splits.tied, (tree, 0, ((-2,), ()), 0)
            yield splits.tied, (E8, 7, tree, len(tree[0]) - 1)
    for row in ((0,), (0, 1, 0), (0, 1, 0, 1, 0), (5, -2, 7, -3, 7, 7, -2) * 9, tuple(range(500))):
        yield lots.middle_height, (roots.root_of_row(row),)


def calls_of_branches():
    for tree in LITTLE[:20] + JUST[:1] + OVER[:1] + ROUGH:
        yield branches.is_smooth, (tree,)
        for place in range(max(1, len(tree[0]))):
            for act in (branches.branch_row, branches.gaps, branches.turn_point):
                yield act, (tree, place)
            for act in (branches.values, branches.value_row):
                yield act, (tree, place, 40)
            yield branches.meeting, (tree, place, 0)


def calls_of_sums():
    for number in ((2, 1), (7, 3), (400, 399), (401, 2), (5000, 1), (5001, 1), (10 ** 40, 7)):
        yield sums.fraction_sum, (number,)
        yield sums.chain_levels, (number,)


def calls_of_stills():
    for tree in FEW[::3] + BASES[:8] + LITTLE[:10] + NOT_BELOW + [row_tree((-60, -60)), E8]:
        many = len(tree[0])
        for x in ((0,) * many, tuple(range(many)), (-(10 ** 40),) * many, (60,) * many):
            for act in (stills.is_still, stills.loss, stills.shares, stills.point_row):
                yield act, (tree, x)
            for place in range(many):
                yield stills.pulled_up, (tree, ("at", place), x)
            for i, j in tree[1]:
                yield stills.pulled_up, (tree, ("on", i, j), x)
            yield stills.pulled_up, (tree, ("list", tuple(range(many))[::-1]), x)
        for most in (0, 1, 5, 60):
            yield stills.still_cycles, (tree, most)


def calls_of_lists():
    for n in range(10):
        yield lists.shapes, (n,)
    for n, low, high in ((0, -60, 60), (1, -60, 60), (2, -60, 60), (2, -9, 1), (4, -3, -1), (6, -2, -1), (6, -3, -1)):
        yield lists.trees_between, (n, low, high)
        yield lists.unimodular_trees, (n, low, high)
        yield lists.rational_trees, (n, min(low, -2))


def calls_of_points():
    for tree in LITTLE[:20] + JUST[:1] + ROUGH:
        for place in range(max(1, len(tree[0]))):
            yield points.points_of, (tree, place)
    for value in VALUES + [(1,), (2, 1, 1), (4, 2, 1, 1), (3, 1), (1, 2), [1], (True,), (1,) * 16, (1,) * 17, [[1]], ([1],)]:
        yield points.tree_of_points, (value,)


ALL_CALLS = [calls_of_trees, calls_of_tables, calls_of_chains, calls_of_blowing, calls_of_sames, calls_of_loops,
             calls_below_zero, calls_of_roots, calls_of_stars, calls_of_lots, calls_of_branches,
             calls_of_sums, calls_of_stills, calls_of_lists, calls_of_points]


def is_plain(value):
    """Tell whether a value is one of the kinds that are returned."""
    if type(value) is tuple:
        return all(is_plain(item) for item in value)
    return value is None or type(value) in (int, str, bool)


def outcome(act, arguments):
    try:
        return act(*arguments)
    except TreeError as error:
        return (type(error).__name__, tuple(vars(error).items()))


def same(one, other):
    """Compare values and kinds, so that True is not 1."""
    return repr(one) == repr(other)


class Answers(unittest.TestCase):
    def test_kinds_arguments_and_repetition(self):
        count = 0
        for calls in ALL_CALLS:
            for act, arguments in calls():
                kept = copy.deepcopy(arguments)
                first = outcome(act, arguments)
                self.assertTrue(is_plain(first), (act, arguments))
                self.assertTrue(same(kept, arguments), (act, kept))
                self.assertTrue(same(outcome(act, kept), first), (act, arguments))
                count += 1
        self.assertGreater(count, 1000)

    def test_all_functions_are_called(self):
        called = {f"{act.__module__}.{act.__name__}" for calls in ALL_CALLS for act, _ in calls()}
        listed = {f"blowntrees.{name}.{told.split('(')[0]}" for name, all_told in INTERFACE.items() for told in all_told}
        self.assertEqual(called, listed)


if __name__ == "__main__":
    unittest.main()
