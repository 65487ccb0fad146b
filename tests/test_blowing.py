"""[12], [13] as to loose places, [15], and [2] for these."""

import random
import unittest

from blowntrees.blowing import blown_at, blown_down, blown_on, loose_places, nought_out
from blowntrees.errors import NotLoose, NotNought, TooGreat, TooMany
from blowntrees.listings import listed
from blowntrees.tables import determinant, signs
from blowntrees.trees import neighbours, tree_breach
from samples import E8, EMPTY, FEW, GREAT, SMALL, all_trees, row_tree, some_listing, some_trees, star, twigs

MANY = SMALL + FEW + GREAT + all_trees(4, (-1, 0))


def one_more_below(told):
    return (told[0], told[1], told[2] + 1)


def room(tree, places):
    """Tell whether a tree can be blown up at some places."""
    return len(tree[0]) < 16 and all(tree[0][place] > -60 for place in places)


class Refusing(unittest.TestCase):
    def refused(self, kind, limit, act, *arguments):
        with self.assertRaises(kind) as caught:
            act(*arguments)
        self.assertEqual(caught.exception.limit, limit)


class BlowingUp(Refusing):
    def test_blown_at(self):
        for tree in MANY:
            for place in range(len(tree[0])):
                if not room(tree, (place,)):
                    continue
                new = blown_at(tree, place)
                self.assertIsNone(tree_breach(new))
                last = len(tree[0])
                expected = list(tree[0]) + [-1]
                expected[place] -= 1
                self.assertEqual(new, (tuple(expected), tuple(sorted(tree[1] + ((place, last),)))))
                self.assertEqual(determinant(new), determinant(tree))
                self.assertEqual(signs(new), one_more_below(signs(tree)))
                self.assertEqual(blown_down(new, last), tree)

    def test_blown_on(self):
        for tree in MANY:
            for tie in tree[1]:
                if not room(tree, tie):
                    continue
                new = blown_on(tree, tie)
                self.assertIsNone(tree_breach(new))
                last = len(tree[0])
                self.assertEqual(neighbours(new, last), tie)
                self.assertEqual(set(new[1]) - {(tie[0], last), (tie[1], last)}, set(tree[1]) - {tie})
                expected = [weight - (place in tie) for place, weight in enumerate(tree[0])]
                self.assertEqual(new[0], tuple(expected) + (-1,))
                self.assertEqual(determinant(new), determinant(tree))
                self.assertEqual(signs(new), one_more_below(signs(tree)))
                self.assertEqual(blown_down(new, last), tree)

    def test_undone_behind_a_listing(self):
        chance = random.Random(50)
        for tree in FEW + GREAT + SMALL[::3]:
            for place in range(len(tree[0])):
                ups = [blown_at(tree, place)] if room(tree, (place,)) else []
                ups += [blown_on(tree, tie) for tie in tree[1] if place in tie and room(tree, tie)]
                for new in ups:
                    listing = some_listing(chance, len(new[0]))
                    last = listing.index(len(tree[0]))
                    left = [other for other in listing if other != len(tree[0])]
                    self.assertEqual(blown_down(listed(new, listing), last), listed(tree, tuple(left)))

    def test_known_trees_blown_up(self):
        self.assertEqual(blown_at(((3,), ()), 0), row_tree((2, -1)))
        self.assertEqual(blown_at(row_tree((1, 2, 3)), 1), ((1, 1, 3, -1), ((0, 1), (1, 2), (1, 3))))
        self.assertEqual(blown_on(row_tree((1, 2, 3)), (0, 1)), ((0, 1, 3, -1), ((0, 3), (1, 2), (1, 3))))
        self.assertEqual(blown_on(row_tree((0, 0)), (0, 1)), ((-1, -1, -1), ((0, 2), (1, 2))))
        self.assertEqual(blown_at(((-59,), ()), 0), row_tree((-60, -1)))

    def test_a_seventeenth_place(self):
        for tree in (row_tree((0,) * 16), star((60,) * 16), twigs((-2,) * 16)):
            for place in range(16):
                self.refused(TooMany, 16, blown_at, tree, place)
            for tie in tree[1]:
                self.refused(TooMany, 16, blown_on, tree, tie)
        self.assertEqual(len(blown_at(row_tree((0,) * 15), 14)[0]), 16)
        self.assertEqual(len(blown_on(row_tree((0,) * 15), (13, 14))[0]), 16)

    def test_a_weight_below_the_limit(self):
        tree = row_tree((-60, 5, -60, -59, -59))
        for place in (0, 2):
            self.refused(TooGreat, 60, blown_at, tree, place)
        for tie in ((0, 1), (1, 2), (2, 3)):
            self.refused(TooGreat, 60, blown_on, tree, tie)
        self.assertEqual(blown_on(tree, (3, 4))[0], (-60, 5, -60, -60, -60, -1))
        self.assertEqual(blown_at(tree, 3)[0], (-60, 5, -60, -60, -59, -1))

    def test_too_many_comes_ahead_of_too_great(self):
        for tree in (row_tree((-60,) * 16), twigs((-60,) * 16)):
            self.refused(TooMany, 16, blown_at, tree, 3)
            self.refused(TooMany, 16, blown_on, tree, tree[1][5])


class BlowingDown(Refusing):
    def test_blown_down(self):
        for tree in MANY:
            for place in range(len(tree[0])):
                near = neighbours(tree, place)
                if tree[0][place] != -1 or len(near) > 2:
                    self.assertRaises(NotLoose, blown_down, tree, place)
                    continue
                if any(tree[0][other] == 60 for other in near):
                    self.refused(TooGreat, 60, blown_down, tree, place)
                    continue
                new = blown_down(tree, place)
                self.assertIsNone(tree_breach(new))
                self.assertEqual(determinant(new), determinant(tree))
                self.assertEqual(one_more_below(signs(new)), signs(tree))
                kept = [other for other in range(len(tree[0])) if other != place]
                self.assertEqual(new[0], tuple(tree[0][other] + (other in near) for other in kept))
                ties = {(kept[i], kept[j]) for i, j in new[1]}
                between = {near} if len(near) == 2 else set()
                self.assertEqual(ties, {tie for tie in tree[1] if place not in tie} | between)

    def test_known_trees_blown_down(self):
        self.assertEqual(blown_down(((-1,), ()), 0), EMPTY)
        self.assertEqual(blown_down(row_tree((-1, 5)), 0), ((6,), ()))
        self.assertEqual(blown_down(row_tree((-1, 5)), 0)[1], ())
        self.assertEqual(blown_down(row_tree((-2, -1, -3)), 1), row_tree((-1, -2)))
        self.assertEqual(blown_down(row_tree((-2, -3, -1)), 2), row_tree((-2, -2)))
        tree = ((7, -1, 8, 9), ((0, 2), (1, 2), (1, 3)))
        self.assertEqual(blown_down(tree, 1), ((7, 9, 10), ((0, 1), (1, 2))))

    def test_not_loose(self):
        for tree, place in [(((-2,), ()), 0), (((0,), ()), 0), (((1,), ()), 0), (row_tree((-1, -2, -1)), 1),
                            (star((-1, -1, -1, -1)), 0), (star((-1,) * 16), 0), (E8, 2), (row_tree((0, 60)), 0)]:
            self.assertRaises(NotLoose, blown_down, tree, place)

    def test_not_loose_comes_ahead_of_too_great(self):
        self.assertRaises(NotLoose, blown_down, row_tree((60, 1, 60)), 1)
        self.assertRaises(NotLoose, blown_down, star((-1, 60, 60, 60)), 0)
        self.refused(TooGreat, 60, blown_down, row_tree((60, -1, 60)), 1)
        self.refused(TooGreat, 60, blown_down, row_tree((60, -1, 59)), 1)
        self.refused(TooGreat, 60, blown_down, row_tree((-1, 60)), 0)
        self.assertEqual(blown_down(row_tree((59, -1, 59)), 1), row_tree((60, 60)))
        self.assertEqual(blown_down(row_tree((-60, -1, -60)), 1), row_tree((-59, -59)))
        # A great weight elsewhere is no matter.
        self.assertEqual(blown_down(row_tree((-1, 59, 60)), 0), row_tree((60, 60)))

    def test_loose_places(self):
        for tree in MANY:
            loose = [place for place, weight in enumerate(tree[0])
                     if weight == -1 and sum(place in tie for tie in tree[1]) <= 2]
            self.assertEqual(loose_places(tree), tuple(loose))
        self.assertEqual(loose_places(EMPTY), ())
        self.assertEqual(loose_places(((-1,), ())), (0,))
        self.assertEqual(loose_places(row_tree((-1,) * 16)), tuple(range(16)))
        self.assertEqual(loose_places(star((-1,) * 16)), tuple(range(1, 16)))
        self.assertEqual(loose_places(star((-1,) * 3)), (0, 1, 2))
        self.assertEqual(loose_places(star((-1,) * 4)), (1, 2, 3))


class NoughtOut(Refusing):
    def trees(self):
        return MANY + some_trees(51, 150, (15, 16, 9), (-1, 0, 0, 1, 30)) + all_trees(4, (0, 5))

    def test_nought_out(self):
        met = 0
        for tree in self.trees():
            for place in range(len(tree[0])):
                near = neighbours(tree, place)
                if tree[0][place] != 0 or len(near) != 2:
                    self.assertRaises(NotNought, nought_out, tree, place)
                elif abs(tree[0][near[0]] + tree[0][near[1]]) > 60:
                    self.refused(TooGreat, 60, nought_out, tree, place)
                else:
                    self.nought_is_out(tree, place, near)
                    met += 1
        self.assertGreater(met, 200)

    def nought_is_out(self, tree, place, near):
        new = nought_out(tree, place)
        self.assertIsNone(tree_breach(new))
        lesser, greater = near
        kept = [other for other in range(len(tree[0])) if other not in (place, greater)]
        weights = [tree[0][other] + (tree[0][greater] if other == lesser else 0) for other in kept]
        self.assertEqual(new[0], tuple(weights))
        drawn = [tuple(lesser if end == greater else end for end in tie) for tie in tree[1] if place not in tie]
        self.assertEqual({frozenset((kept[i], kept[j])) for i, j in new[1]}, {frozenset(tie) for tie in drawn})
        self.assertEqual(determinant(new), -determinant(tree))
        above, level, below = signs(tree)
        self.assertEqual(signs(new), (above - 1, level, below - 1))

    def test_known_noughts(self):
        self.assertEqual(nought_out(row_tree((5, 0, 7)), 1), ((12,), ()))
        self.assertEqual(nought_out(row_tree((1, 2, 0, 3, 4)), 2), row_tree((1, 5, 4)))
        tree = ((0, 10, 20, 30, 40), ((0, 2), (0, 4), (1, 4), (3, 4)))
        self.assertEqual(nought_out(tree, 0), ((10, 60, 30), ((0, 1), (1, 2))))
        tree = ((10, 20, 0, 30, 40), ((0, 3), (1, 2), (2, 3), (3, 4)))
        self.assertEqual(nought_out(tree, 2), ((10, 50, 40), ((0, 1), (1, 2))))

    def test_not_nought(self):
        for tree, place in [(((0,), ()), 0), (row_tree((0, 0)), 0), (row_tree((0, 0)), 1), (star((0,) * 4), 0),
                            (row_tree((0, 1, 0)), 1), (row_tree((0, -1, 0)), 1), (row_tree((0, 0, 0)), 0),
                            (E8, 2), (star((0,) * 16), 5)]:
            self.assertRaises(NotNought, nought_out, tree, place)

    def test_sums_out_of_bounds(self):
        self.assertEqual(nought_out(row_tree((30, 0, 30)), 1), ((60,), ()))
        self.assertEqual(nought_out(row_tree((-60, 0, 0)), 1), ((-60,), ()))
        self.assertEqual(nought_out(row_tree((-60, 0, 60)), 1), ((0,), ()))
        for a, b in ((30, 31), (60, 60), (-60, -1), (-30, -31), (1, 60)):
            self.refused(TooGreat, 60, nought_out, row_tree((a, 0, b)), 1)
            self.refused(TooGreat, 60, nought_out, row_tree((0,) * 6 + (a, 0, b) + (0,) * 7), 7)
            self.assertRaises(NotNought, nought_out, row_tree((a, 1, b)), 1)
            self.assertRaises(NotNought, nought_out, star((0, a, b, 60)), 0)


if __name__ == "__main__":
    unittest.main()
