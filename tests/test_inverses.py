"""[8]: the inverse of the table, and what is left without some places."""

import random
import unittest

from blowntrees.errors import Nought
from blowntrees.inverses import inverse, left_determinant
from blowntrees.tables import determinant, is_below
from blowntrees.trees import path
from exact import exchanged, fraction, in_lowest_terms, minor, plain_determinant, plain_table
from samples import E8, EMPTY, FEW, GREAT, NAMED, SMALL, TREES, all_trees, row_tree, some_trees, star, twigs

BELOW = (some_trees(30, 20, (15, 16), range(-60, -15)) + some_trees(31, 20, range(5, 12), range(-9, -1))
         + [tree for tree in NAMED if is_below(tree)])


def multiplied(one, other):
    many = range(len(one))
    return [[sum(one[i][k] * other[k][j] for k in many) for j in many] for i in many]


class Inverses(unittest.TestCase):
    def test_table_times_inverse_is_the_unit_matrix(self):
        for tree in SMALL + FEW + GREAT:
            rows = plain_table(tree)
            if plain_determinant(rows) == 0:
                continue
            told = inverse(tree)
            self.assertTrue(all(in_lowest_terms(entry) for row in told for entry in row))
            turned = [[fraction(entry) for entry in row] for row in told]
            unit = [[int(i == j) for j in range(len(rows))] for i in range(len(rows))]
            self.assertEqual(multiplied(rows, turned), unit)
            self.assertEqual(multiplied(turned, rows), unit)

    def test_nought_exactly_where_the_determinant_is_nought(self):
        noughts = 0
        for tree in TREES + all_trees(4, (-1, 0, 1)):
            if plain_determinant(plain_table(tree)) == 0:
                self.assertRaises(Nought, inverse, tree)
                noughts += 1
            else:
                self.assertEqual(len(inverse(tree)), len(tree[0]))
        self.assertGreater(noughts, 100)
        for tree in (((0,), ()), row_tree((-1, -1)), star((0,) * 16), star((-4,) + (-2,) * 8)):
            self.assertRaises(Nought, inverse, tree)

    def test_known_inverses(self):
        self.assertEqual(inverse(EMPTY), ())
        self.assertEqual(inverse(((-1,), ())), (((-1, 1),),))
        self.assertEqual(inverse(((60,), ())), (((1, 60),),))
        self.assertEqual(inverse(row_tree((0, 0))), (((0, 1), (1, 1)), ((1, 1), (0, 1))))
        self.assertEqual(inverse(row_tree((-2, -2))), (((-2, 3), (-1, 3)), ((-1, 3), (-2, 3))))

    def test_entries_by_what_is_left_without_the_path(self):
        for tree in BELOW:
            told = inverse(tree)
            whole = determinant(tree)
            rows = exchanged(plain_table(tree))
            for i in range(len(rows)):
                for j in range(len(rows)):
                    left = plain_determinant(minor(rows, path(tree, i, j)))
                    self.assertEqual(fraction(told[i][j]) * whole, -left)
                    self.assertEqual(left_determinant(tree, path(tree, i, j)), left)


class Lefts(unittest.TestCase):
    def test_left_determinant(self):
        chance = random.Random(32)
        for tree in SMALL + FEW + GREAT:
            rows = exchanged(plain_table(tree))
            many = len(rows)
            lots = [[], list(range(many)), list(range(many)) * 2]
            for _ in range(6 if many else 0):
                lots.append([chance.randrange(many) for _ in range(chance.randrange(2 * many))])
            for places in lots:
                told = left_determinant(tree, tuple(places))
                self.assertEqual(told, plain_determinant(minor(rows, places)))
                chance.shuffle(places)
                self.assertEqual(left_determinant(tree, tuple(places)), told)

    def test_known_lefts(self):
        self.assertEqual(left_determinant(EMPTY, ()), 1)
        self.assertEqual(left_determinant(E8, ()), 1)
        self.assertEqual(left_determinant(E8, tuple(range(8))), 1)
        self.assertEqual(left_determinant(E8, (2,)), 3 * 5 * 2)
        self.assertEqual(left_determinant(E8, (2, 2, 7)), 3 * 5)
        self.assertEqual(left_determinant(E8, (7, 2, 4)), 3 * 2 * 3)
        self.assertEqual(left_determinant(star((9, 0, 5, -7)), (0,)), 0)
        self.assertEqual(left_determinant(star((9, 3, 5, -7)), (0,)), -3 * -5 * 7)
        self.assertEqual(left_determinant(twigs((0,) * 15), (0,)), 0)
        self.assertEqual(left_determinant(twigs((-2,) * 7), (0,)), 4 * 4)
        self.assertEqual(left_determinant(twigs((-2,) * 7), (0, 1)), 2 * 2 * 4)


if __name__ == "__main__":
    unittest.main()
