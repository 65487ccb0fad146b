"""[13] as to least and same trees, [14], and [2] for these."""

import itertools
import random
import unittest

from blowntrees.blowing import blown_at, blown_down, blown_on, loose_places
from blowntrees.errors import NotBelow, NotMoves, NotSame
from blowntrees.listings import least_form, listed
from blowntrees.sames import are_same, least_tree, moved, moves_between
from blowntrees.tables import determinant, is_below
from blowntrees.trees import tree_breach
from belows import (BASES, BELOW, GREAT_BELOW, NOT_BELOW, SEVEN, SMALL_BELOW, blown, blown_up, brought_down,
                    same_pairs, shuffled, up_moves)
from samples import E8, EMPTY, row_tree, some_listing, star, twigs

SMOOTH = ((-1,), ())
CHAIN = row_tree((-2, -3, -2))


class LeastTrees(unittest.TestCase):
    def test_whatever_is_blown_down_first(self):
        chance = random.Random(80)
        for tree in BELOW:
            told = least_tree(tree)
            self.assertEqual(loose_places(told), ())
            self.assertTrue(is_below(told))
            self.assertEqual(determinant(told), determinant(tree))
            self.assertEqual(least_form(told), told)
            for _ in range(3):
                self.assertEqual(least_form(brought_down(chance, tree)), told)

    def test_all_ways_down(self):
        chance = random.Random(89)
        for tree in SMALL_BELOW[::2] + [blown_up(chance, tree, 8) for tree in (EMPTY, SEVEN, row_tree((-2, -5)))]:
            left = [tree]
            while left:
                one = left.pop()
                self.assertTrue(is_below(one))
                left += [blown_down(one, place) for place in loose_places(one)]
                if not loose_places(one):
                    self.assertEqual(least_form(one), least_tree(tree))

    def test_blown_up_in_many_ways(self):
        chance = random.Random(81)
        for tree in BASES + GREAT_BELOW[:6]:
            told = least_tree(tree)
            for _ in range(6):
                self.assertEqual(least_tree(shuffled(chance, blown_up(chance, tree, 16))), told)

    def test_known_least_trees(self):
        for tree, told in [(EMPTY, EMPTY), (SMOOTH, EMPTY), (row_tree((-2, -1, -3)), EMPTY), (((-2,), ()), ((-2,), ())),
                           (row_tree((-1, -2, -2, -2)), EMPTY), (row_tree((-2, -2, -1, -4)), EMPTY),
                           (row_tree((-3, -1, -3)), row_tree((-2, -2))), (row_tree((-1, -5)), ((-4,), ())),
                           (E8, least_form(E8)), (SEVEN, least_form(SEVEN)),
                           (row_tree((-2, -3, -1, -2, -4)), EMPTY),
                           (row_tree((-2, -4, -1, -2, -4)), row_tree((-2, -2, -3))),
                           (star((-1, -2, -3)), EMPTY)]:
            self.assertEqual(least_tree(tree), least_form(told), tree)
        # A place of the weight -1 with three neighbours is not loose.
        self.assertEqual(least_tree(SEVEN), SEVEN)
        self.assertEqual(least_tree(star((-2, -2, -3, -7, -1))), SEVEN)

    def test_trees_down_to_the_empty_one(self):
        chance = random.Random(82)
        for many in range(1, 17):
            tree = shuffled(chance, blown_up(chance, EMPTY, many))
            self.assertEqual(least_tree(tree), EMPTY)
            self.assertTrue(are_same(tree, EMPTY))
            self.assertTrue(are_same(EMPTY, tree))

    def test_not_below(self):
        for tree in NOT_BELOW:
            self.assertRaises(NotBelow, least_tree, tree)


class SameTrees(unittest.TestCase):
    def test_same_both_ways_round(self):
        for one, other in same_pairs(83, 60):
            self.assertIs(are_same(one, other), True)
            self.assertIs(are_same(other, one), True)
            self.assertIs(are_same(one, one), True)

    def test_not_same(self):
        chance = random.Random(84)
        kinds = {}
        for tree in BASES + SMALL_BELOW:
            kinds.setdefault(least_form(brought_down(chance, tree)), []).append(tree)
        chosen = [group[-1] for group in kinds.values()]
        for one, other in itertools.permutations(chosen[:40], 2):
            self.assertIs(are_same(one, other), False)

    def test_like_weights(self):
        for one, other in [(row_tree((-3, -2, -2)), CHAIN),
                           (row_tree((-2, -2, -2, -2)), star((-2, -2, -2, -2))),
                           (row_tree((-1, -3, -2)), row_tree((-3, -1, -2))),
                           (twigs((-3,) * 7), row_tree((-3,) * 7))]:
            self.assertEqual(sorted(one[0]), sorted(other[0]))
            self.assertIs(are_same(one, other), False)
            self.assertIs(are_same(other, one), False)
            self.assertRaises(NotSame, moves_between, one, other)

    def test_not_below(self):
        for tree in NOT_BELOW:
            for other in (EMPTY, E8, tree, NOT_BELOW[0]):
                for act in (are_same, moves_between):
                    self.assertRaises(NotBelow, act, tree, other)
                    self.assertRaises(NotBelow, act, other, tree)


class Moved(unittest.TestCase):
    def refused(self, tree, moves, place):
        with self.assertRaises(NotMoves) as caught:
            moved(tree, moves)
        self.assertEqual(caught.exception.place, place, moves)

    def test_each_kind_of_move(self):
        for tree in BELOW + NOT_BELOW:
            self.assertEqual(moved(tree, ()), tree)
            many = len(tree[0])
            for place in range(many):
                if many < 16 and tree[0][place] > -60:
                    self.assertEqual(moved(tree, (("at", place),)), blown_at(tree, place))
                if place in loose_places(tree) and 60 not in tree[0]:
                    self.assertEqual(moved(tree, (("down", place),)), blown_down(tree, place))
            for i, j in tree[1]:
                if many < 16 and -60 not in (tree[0][i], tree[0][j]):
                    self.assertEqual(moved(tree, (("on", i, j),)), blown_on(tree, (i, j)))
            listing = tuple(range(many))[::-1]
            self.assertEqual(moved(tree, (("list", listing),)), listed(tree, listing))

    def test_the_empty_tree(self):
        self.assertEqual(moved(EMPTY, ()), EMPTY)
        self.assertEqual(moved(EMPTY, (("new",),)), SMOOTH)
        self.assertEqual(moved(EMPTY, (("list", ()),)), EMPTY)
        self.assertEqual(moved(SMOOTH, (("down", 0),)), EMPTY)
        self.assertEqual(moved(EMPTY, (("new",), ("down", 0), ("new",), ("at", 0))), row_tree((-2, -1)))
        self.refused(EMPTY, (("at", 0),), 0)
        self.refused(EMPTY, (("down", 0),), 0)
        self.refused(EMPTY, (("on", 0, 1),), 0)
        self.refused(EMPTY, (("list", (0,)),), 0)
        self.refused(EMPTY, (("new",), ("new",)), 1)
        for tree in (SMOOTH, E8, row_tree((0, 0))):
            self.refused(tree, (("new",),), 0)
            self.refused(tree, (("list", tuple(range(len(tree[0])))), ("new",)), 1)

    def test_sequences(self):
        chance = random.Random(85)
        for tree in BASES + [((0,), ()), row_tree((5, -3)), star((0,) * 5)]:
            moves = []
            new = tree
            while len(new[0]) < 16:
                move = chance.choice(up_moves(new))
                new = blown(new, move)
                moves.append(move)
                listing = some_listing(chance, len(new[0]))
                new = listed(new, listing)
                moves.append(("list", listing))
            self.assertEqual(moved(tree, tuple(moves)), new)
            self.refused(tree, tuple(moves) + (("at", 0),), len(moves))
            self.refused(tree, tuple(moves) + (("down", 16), "x"), len(moves))
        told = moved(EMPTY, (("new",), ("at", 0), ("on", 0, 1), ("list", (2, 0, 1)), ("down", 0)))
        self.assertEqual(told, row_tree((-2, -1)))

    def test_no_tuple(self):
        for value in ([], [("at", 0)], None, 0, True, "", "at", {}, {0: ("at", 0)}, {("at", 0)}, range(0), b"", 1.5,
                      iter(()), moved, object()):
            self.refused(E8, value, -1)
            self.refused(EMPTY, value, -1)

    def test_entries_that_are_no_moves(self):
        tree = row_tree((-2, -1, -3))
        good = ("at", 0)
        for move in ([], ["at", 0], "at", "", (), None, 0, True, ("at",), ("at", 0, 1), ("down",), ("down", 1, 1),
                     ("on", 0), ("on", (0, 1)), ("on", 0, 1, 2), ("new", 0), ("list",), ("list", 0, 1, 2), ("up", 0),
                     ("At", 0), (0, "at"), (None,), (("at", 0),), ([],), ({},), ("at", True), ("at", False),
                     ("down", True), ("on", False, 1), ("on", 0, True), ("at", -1), ("at", 4), ("at", 10 ** 30),
                     ("down", -3), ("down", 4), ("on", 0, 2), ("on", 1, 0), ("on", 0, 0), ("on", 3, 4), ("on", -2, -1),
                     ("at", "0"), ("at", None), ("at", 0.0), ("at", (0,)), ("on", 0.0, 1), ("on", [0], 1),
                     ("down", 1.0), ("on", (0, 1), None), (b"at", 0), ("at ", 0), ("", 0)):
            self.refused(tree, (move,), 0)
            self.refused(tree, (good, move, ("at", 99), good), 1)

    def test_listings_that_are_none(self):
        tree = row_tree((-2, -1, -3))
        for listing in ((), (0, 1), (0, 1, 2, 3), (0, 1, 1), (0, 0, 0), (1, 2, 3), (-1, 0, 1), [0, 1, 2], [2, 1, 0],
                        (0, True, 2), (False, 1, 2), (0, 1, "2"), (0, 1, None), (0, 1, 2.0), None, 3, "012", range(3),
                        {0: 0, 1: 1, 2: 2}, ((0, 1, 2),), (0, 1, [2]), (10 ** 30, 0, 1)):
            self.refused(tree, (("list", listing),), 0)
            self.refused(tree, (("list", (1, 0, 2)), ("list", listing)), 1)

    def test_moves_that_raise_errors(self):
        full = row_tree((-2,) * 16)
        low = row_tree((-60, -59, -60))
        high = row_tree((60, -1, 5))
        for tree, move in [(full, ("at", 0)), (full, ("on", 3, 4)), (low, ("at", 0)), (low, ("on", 0, 1)),
                           (low, ("on", 1, 2)), (high, ("down", 1)), (row_tree((-1, 60)), ("down", 0)),
                           (star((-1, -2, -3, -7)), ("down", 0)), (((-2,), ()), ("down", 0)), (E8, ("down", 2)),
                           (row_tree((-2, 0, 1)), ("down", 1))]:
            self.refused(tree, (move,), 0)
            same = ("list", tuple(range(len(tree[0]))))
            self.refused(tree, (same, same, move, "no move"), 2)
        # The place lets one more below it, then none.
        self.refused(row_tree((-57, 0)), (("at", 0),) * 5, 3)
        self.refused(row_tree((0, 0)), (("at", 0),) * 20, 14)
        self.assertEqual(moved(low, (("at", 1),))[0], (-60, -60, -60, -1))
        self.assertEqual(moved(high, (("at", 0), ("down", 1)))[0], (60, 6, -1))

    def test_moves_go_by_the_tree_as_it_then_stands(self):
        tree = row_tree((-2, -1, -3))
        self.assertEqual(moved(tree, (("down", 1), ("down", 0), ("down", 0))), EMPTY)
        self.refused(tree, (("down", 1), ("down", 1)), 1)
        self.refused(tree, (("down", 1), ("down", 0), ("down", 1)), 2)
        self.refused(tree, (("on", 0, 1), ("on", 0, 1)), 1)
        self.assertEqual(moved(tree, (("at", 2), ("at", 3))), row_tree((-2, -1, -4, -2, -1)))


class MovesBetween(unittest.TestCase):
    def leads(self, one, other):
        moves = moves_between(one, other)
        self.assertIs(type(moves), tuple)
        self.assertTrue(all(type(move) is tuple for move in moves))
        self.assertEqual(moved(one, moves), other)

    def test_both_ways_round(self):
        for one, other in same_pairs(86, 80):
            self.leads(one, other)
            self.leads(other, one)
            self.leads(one, one)

    def test_trees_of_sixteen_places(self):
        chance = random.Random(87)
        for tree in BASES + GREAT_BELOW:
            one = shuffled(chance, blown_up(chance, tree, 16))
            other = shuffled(chance, blown_up(chance, tree, 16))
            self.leads(one, other)
            self.leads(other, one)

    def test_the_empty_tree(self):
        chance = random.Random(88)
        self.leads(EMPTY, EMPTY)
        for many in range(1, 17):
            tree = shuffled(chance, blown_up(chance, EMPTY, many))
            self.leads(tree, EMPTY)
            self.leads(EMPTY, tree)

    def test_weights_at_the_bound(self):
        one = star((-59,) + (-1,) * 3)
        other = blown_at(((-56,), ()), 0)
        self.leads(one, other)
        self.leads(other, one)
        tree = row_tree((-60, -60))
        self.leads(tree, listed(tree, (1, 0)))
        self.leads(blown_on(row_tree((-59, -59)), (0, 1)), row_tree((-59, -59)))

    def test_not_same(self):
        for one, other in [(EMPTY, E8), (E8, EMPTY), (E8, SEVEN), (SMOOTH, ((-2,), ())), (row_tree((-5, -2)), CHAIN)]:
            self.assertRaises(NotSame, moves_between, one, other)

    def test_not_below_ahead_of_not_same(self):
        for tree in NOT_BELOW:
            for other in (EMPTY, E8, SMOOTH):
                self.assertRaises(NotBelow, moves_between, tree, other)
                self.assertRaises(NotBelow, moves_between, other, tree)


if __name__ == "__main__":
    unittest.main()
