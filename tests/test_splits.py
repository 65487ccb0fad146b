"""[38], [39]: trees cut at a tie, tied together, and taken apart at a place."""

import math
import random
import unittest

from blowntrees.errors import TooMany
from blowntrees.inverses import left_determinant
from blowntrees.splits import cut_at, side_numbers, tied
from blowntrees.tables import determinant
from blowntrees.trees import tree_breach
from exact import exchanged, minor, plain_determinant, plain_table
from refusing import Refusing
from samples import E8, EMPTY, FEW, GREAT, SMALL, all_trees, is_tree, row_tree, star, twigs

MANY = SMALL + FEW + GREAT + all_trees(4, (-1, 0, 3))


def reached(tree, start, gone):
    """Return the places to which one comes from a place without some ties, ascending."""
    found = {start}
    for _ in tree[0]:
        for tie in tree[1]:
            if tie not in gone and (tie[0] in found or tie[1] in found):
                found |= set(tie)
    return sorted(found)


def part_of(tree, places):
    """Return the tree of some places, numbered anew in ascending sequence."""
    ties = [(places.index(i), places.index(j)) for i, j in tree[1] if i in places and j in places]
    return (tuple(tree[0][place] for place in places), tuple(ties))


class Cutting(unittest.TestCase):
    def test_at_each_tie(self):
        for tree in MANY:
            for i, j in tree[1]:
                here, there = reached(tree, i, [(i, j)]), reached(tree, j, [(i, j)])
                one, i_there, other, j_there = told = cut_at(tree, (i, j))
                self.assertIs(type(told), tuple)
                self.assertEqual((one, other), (part_of(tree, here), part_of(tree, there)))
                self.assertEqual((here[i_there], there[j_there]), (i, j))
                self.assertIsNone(tree_breach(one))
                self.assertIsNone(tree_breach(other))

    def test_known_cuts(self):
        self.assertEqual(cut_at(row_tree((5, 6)), (0, 1)), (((5,), ()), 0, ((6,), ()), 0))
        tree = ((1, 2, 3, 4, 5), ((0, 3), (1, 2), (1, 4), (3, 4)))
        self.assertEqual(cut_at(tree, (3, 4)), (((1, 4), ((0, 1),)), 1, ((2, 3, 5), ((0, 1), (0, 2))), 2))
        self.assertEqual(cut_at(tree, (0, 3)), (((1,), ()), 0, ((2, 3, 4, 5), ((0, 1), (0, 3), (2, 3))), 2))
        self.assertEqual(cut_at(tree, (1, 2)), (((1, 2, 4, 5), ((0, 2), (1, 3), (2, 3))), 1, ((3,), ()), 0))

    def test_determinants(self):
        for tree in MANY:
            for tie in tree[1]:
                one, i, other, j = cut_at(tree, tie)
                whole = determinant(one) * determinant(other)
                rest = left_determinant(one, (i,)) * left_determinant(other, (j,))
                self.assertEqual(determinant(tree), whole - rest)


class Tying(Refusing):
    def test_tied(self):
        chance = random.Random(230)
        some = SMALL[1::7] + FEW[1:] + GREAT
        for one in some:
            for _ in range(6):
                other = chance.choice(some)
                i, j = chance.randrange(len(one[0])), chance.randrange(len(other[0]))
                many = len(one[0])
                if many + len(other[0]) > 16:
                    self.refused(TooMany, {"limit": 16}, tied, one, i, other, j)
                    continue
                new = tied(one, i, other, j)
                self.assertIsNone(tree_breach(new))
                self.assertTrue(is_tree(new))
                self.assertEqual(new[0], one[0] + other[0])
                ties = set(one[1]) | {(k + many, m + many) for k, m in other[1]} | {(i, j + many)}
                self.assertEqual(set(new[1]), ties)
                self.assertEqual(cut_at(new, (i, j + many)), (one, i, other, j))
                rest = left_determinant(one, (i,)) * left_determinant(other, (j,))
                self.assertEqual(determinant(new), determinant(one) * determinant(other) - rest)

    def test_cut_and_back(self):
        for tree in FEW + GREAT:
            for tie in tree[1]:
                here, there = reached(tree, tie[0], [tie]), reached(tree, tie[1], [tie])
                back = tied(*cut_at(tree, tie))
                self.assertEqual(back, part_of_listing(tree, here + there))

    def test_sixteen_and_seventeen_places(self):
        for many in range(1, 17):
            one, other = row_tree((2,) * many), star((-60,) * (16 - many)) if many < 16 else EMPTY
            if many < 16:
                self.assertEqual(len(tied(one, many - 1, other, 0)[0]), 16)
            for more in (star((60,) * (17 - many)), twigs((60,) * 16)):
                self.refused(TooMany, {"limit": 16}, tied, one, 0, more, 0)
        self.assertEqual(tied(((60,), ()), 0, ((-60,), ()), 0), row_tree((60, -60)))


def part_of_listing(tree, listing):
    ties = [tuple(sorted((listing.index(i), listing.index(j)))) for i, j in tree[1]]
    return (tuple(tree[0][place] for place in listing), tuple(sorted(ties)))


class Sides(unittest.TestCase):
    def sides(self, tree, place):
        """Return for each neighbour, ascending, the places that hang on it."""
        gone = [tie for tie in tree[1] if place in tie]
        return [reached(tree, other, gone) for other in sorted(i + j - place for i, j in gone)]

    def test_side_numbers(self):
        for tree in MANY:
            rows = exchanged(plain_table(tree))
            for place in range(len(tree[0])):
                told = side_numbers(tree, place)
                self.assertIs(type(told), tuple)
                places = range(len(tree[0]))
                expected = [minor(rows, set(places) - set(side)) for side in self.sides(tree, place)]
                self.assertEqual(told, tuple(plain_determinant(part) for part in expected))

    def test_known_sides(self):
        self.assertEqual(side_numbers(((7,), ()), 0), ())
        self.assertEqual(side_numbers(row_tree((-2, -3)), 0), (3,))
        self.assertEqual(side_numbers(row_tree((-2, -3)), 1), (2,))
        self.assertEqual(side_numbers(E8, 2), (3, 5, 2))
        self.assertEqual([side_numbers(E8, place) for place in (0, 6, 7)], [(4,), (2,), (8,)])

    def test_the_determinant_put_together(self):
        for tree in MANY:
            for place in range(len(tree[0])):
                told = side_numbers(tree, place)
                gone = [tie for tie in tree[1] if place in tie]
                near = sorted(i + j - place for i, j in gone)
                total = -tree[0][place] * math.prod(told)
                for at, (other, side) in enumerate(zip(near, self.sides(tree, place))):
                    others = math.prod(told[:at] + told[at + 1:])
                    total -= others * left_determinant(part_of(tree, side), (side.index(other),))
                self.assertEqual(total, determinant(tree))
                self.assertEqual(left_determinant(tree, (place,)), math.prod(told))


if __name__ == "__main__":
    unittest.main()
