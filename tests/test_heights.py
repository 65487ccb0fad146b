"""[20], and height and carried of [21]."""

import random
import unittest
from fractions import Fraction

from blowntrees.errors import NotBelow
from blowntrees.heights import canonical_row, carried, height, is_marked, square, standing
from blowntrees.tables import product, row_of
from belows import BASES, BELOW, GREAT_BELOW, NOT_BELOW, SEVEN, SMALL_BELOW, SOME_BELOW, same_pairs, shuffled
from exact import form, fraction, in_lowest_terms, plain_inverse, plain_table, times
from samples import E8, EMPTY, row_tree, star

BOUNDS = (0, 3, 10 ** 25)
SOME = SMALL_BELOW + BASES + SOME_BELOW + GREAT_BELOW[::3]


def some_marked(chance, tree, bound):
    """Return a marked row by chance."""
    return tuple(weight + 2 * chance.randint(-bound, bound) for weight in tree[0])


def some_cycle(chance, tree, bound):
    return tuple(chance.randint(-bound, bound) for _ in tree[0])


class Marked(unittest.TestCase):
    def test_canonical_row(self):
        for tree in BELOW:
            told = canonical_row(tree)
            self.assertEqual(told, tuple(-2 - weight for weight in tree[0]))
            self.assertIs(is_marked(tree, told), True)
        self.assertEqual(canonical_row(EMPTY), ())
        self.assertEqual(canonical_row(row_tree((-1, -2, -60))), (-1, 0, 58))

    def test_is_marked(self):
        chance = random.Random(110)
        for tree in BELOW:
            for bound in BOUNDS:
                row = some_marked(chance, tree, bound)
                self.assertIs(is_marked(tree, row), True)
                for place in range(len(row)):
                    for change in (1, -1, 3, -10 ** 25 - 1):
                        wrong = row[:place] + (row[place] + change,) + row[place + 1:]
                        self.assertIs(is_marked(tree, wrong), False)

    def test_known_marks(self):
        self.assertIs(is_marked(EMPTY, ()), True)
        for row, told in [((-1, 0, 1), True), ((1, 2, -3), True), ((0, 0, 1), False), ((1, 1, 1), False),
                          ((1, 0, 0), False), ((0, 1, 0), False), ((-7, -4, 10 ** 30 + 1), True)]:
            self.assertIs(is_marked(row_tree((-1, -2, -3)), row), told)


class Squares(unittest.TestCase):
    def test_against_the_inverse(self):
        chance = random.Random(111)
        for tree in SOME:
            inverse = plain_inverse(plain_table(tree))
            for bound in BOUNDS:
                row = some_cycle(chance, tree, bound)
                told = square(tree, row)
                self.assertTrue(in_lowest_terms(told), told)
                self.assertEqual(fraction(told), form(inverse, row, row))
                self.assertEqual(told[0] < 0, any(row))
                self.assertEqual(square(tree, row_of(tree, row)), (product(tree, row, row), 1))

    def test_standing(self):
        for tree in SOME:
            inverse = plain_inverse(plain_table(tree))
            row = canonical_row(tree)
            told = standing(tree)
            self.assertTrue(in_lowest_terms(told), told)
            self.assertEqual(fraction(told), form(inverse, row, row) + len(row))

    def test_same_trees(self):
        chance = random.Random(112)
        for one, other in same_pairs(113, 60):
            self.assertEqual(standing(one), standing(other))
        for tree in BELOW:
            self.assertEqual(standing(shuffled(chance, tree)), standing(tree))

    def test_known_squares(self):
        self.assertEqual(square(EMPTY, ()), (0, 1))
        self.assertEqual(square(E8, (0,) * 8), (0, 1))
        self.assertEqual(square(((-6,), ()), (4,)), (-8, 3))
        self.assertEqual(square(((-60,), ()), (-60,)), (-60, 1))
        self.assertEqual(square(row_tree((-2, -2)), (1, 1)), (-2, 1))
        self.assertEqual(square(row_tree((-2, -2)), (1, 0)), (-2, 3))
        self.assertEqual(square(row_tree((-2, -2)), (10 ** 20, 0)), (-2 * 10 ** 40, 3))

    def test_known_standings(self):
        for tree, told in [(EMPTY, (0, 1)), (((-1,), ()), (0, 1)), (((-2,), ()), (1, 1)), (((-3,), ()), (2, 3)),
                           (((-4,), ()), (0, 1)), (((-60,), ()), (-826, 15)), (E8, (8, 1)), (SEVEN, (0, 1)),
                           (row_tree((-2,) * 16), (16, 1)), (row_tree((-3, -3)), (1, 1)), (star((-2,) * 4), (4, 1))]:
            self.assertEqual(standing(tree), told, tree)


class Heights(unittest.TestCase):
    def test_heights(self):
        chance = random.Random(114)
        for tree in BELOW:
            for bound in BOUNDS:
                k = some_marked(chance, tree, bound)
                for most in BOUNDS:
                    x = some_cycle(chance, tree, most)
                    told = height(tree, k, x)
                    self.assertIs(type(told), int)
                    doubled = sum(a * b for a, b in zip(k, x)) + sum(a * b for a, b in zip(x, times(plain_table(tree), x)))
                    self.assertEqual(2 * told, -doubled)

    def test_zeros_single_places_and_sums(self):
        chance = random.Random(115)
        for tree in BELOW:
            many = len(tree[0])
            k = some_marked(chance, tree, 50)
            self.assertEqual(height(tree, k, (0,) * many), 0)
            for place in range(many):
                unit = tuple(int(other == place) for other in range(many))
                self.assertEqual(height(tree, k, unit), -(k[place] + tree[0][place]) // 2)
                self.assertEqual(height(tree, canonical_row(tree), unit), 1)
            one, other = some_cycle(chance, tree, 9), some_cycle(chance, tree, 10 ** 9)
            both = tuple(a + b for a, b in zip(one, other))
            told = height(tree, k, one) + height(tree, k, other) - product(tree, one, other)
            self.assertEqual(height(tree, k, both), told)

    def test_carried(self):
        chance = random.Random(116)
        for tree in BELOW:
            for bound in BOUNDS:
                k = some_marked(chance, tree, bound)
                x = some_cycle(chance, tree, chance.choice(BOUNDS))
                told = carried(tree, k, x)
                self.assertEqual(told, tuple(a + 2 * b for a, b in zip(k, times(plain_table(tree), x))))
                self.assertIs(is_marked(tree, told), True)
                rise = fraction(square(tree, told)) - fraction(square(tree, k))
                self.assertEqual(rise, Fraction(-8 * height(tree, k, x)))
                back = tuple(-entry for entry in x)
                self.assertEqual(carried(tree, told, back), k)

    def test_known_heights(self):
        self.assertEqual(height(EMPTY, (), ()), 0)
        self.assertEqual(carried(EMPTY, (), ()), ())
        self.assertEqual([height(((-1,), ()), (-1,), (x,)) for x in range(-3, 4)], [3, 1, 0, 0, 1, 3, 6])
        self.assertEqual([carried(((-1,), ()), (-1,), (x,)) for x in (-1, 0, 1)], [(1,), (-1,), (-3,)])
        self.assertEqual(height(row_tree((-2, -2)), (0, 0), (1, 1)), 1)
        self.assertEqual(height(row_tree((-2, -2)), (0, 2), (1, 1)), 0)
        self.assertEqual(carried(row_tree((-2, -3)), (0, 1), (1, 2)), (0, -9))


class NotBelowZero(unittest.TestCase):
    def test_not_below(self):
        for tree in NOT_BELOW:
            row = (1,) * len(tree[0])
            for act, arguments in [(canonical_row, (tree,)), (is_marked, (tree, row)), (square, (tree, row)),
                                   (standing, (tree,)), (height, (tree, tree[0], row)),
                                   (carried, (tree, tree[0], row))]:
                self.assertRaises(NotBelow, act, *arguments)


if __name__ == "__main__":
    unittest.main()
