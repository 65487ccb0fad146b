"""[21] as to classes, and [22]."""

import itertools
import random
import unittest
from fractions import Fraction

from blowntrees.chains import chain_of, chain_tree
from blowntrees.classes import all_classes, class_of, level, lowest, lowest_rows
from blowntrees.errors import NotBelow, TooMany
from blowntrees.heights import canonical_row, carried, height, is_marked
from blowntrees.loops import all_loops
from blowntrees.tables import determinant
from belows import BASES, BELOW, GREAT_BELOW, NOT_BELOW, SEVEN, SMALL_BELOW, SOME_BELOW, box_size, same_pairs
from exact import form, fraction, in_lowest_terms, plain_inverse, plain_least_entries, plain_table, times
from samples import E8, EMPTY, row_tree, star, twigs
from test_heights import BOUNDS, some_cycle, some_marked

# Trees below zero with the determinants 100 and 101.
FULL = [chain_tree(chain_of((100, 3))), chain_tree(chain_of((100, 7)))]
OVER = [chain_tree(chain_of((101, 2))), chain_tree(chain_of((101, 7)))]
# The products of 1 - weight are 20000; the last tree has one class alone.
JUST = [row_tree((-49, -39, -9)), star((-4, -4, -4, -1, -1, -4, -7)),
        ((-4, -4, -4, -3, -1, -4, -1, -1), ((0, 1), (0, 4), (0, 5), (0, 6), (2, 4), (3, 4), (5, 7)))]
# They are 20007 and 20010.
TOO_GREAT = [row_tree((-8, -18, -12, -8)), star((-22, -1, -2, -4, -28))]


def small(tree):
    return box_size(tree) <= 700


def is_one_class(inverse, one, other):
    """Tell by fractions whether a cycle leads from one row to another one."""
    halves = times(inverse, [Fraction(a - b, 2) for a, b in zip(one, other)])
    return all(entry.denominator == 1 for entry in halves)


def plain_level(inverse, row):
    return -(form(inverse, row, row) + len(row)) / 8


class Classes(unittest.TestCase):
    def test_the_same_told_row_for_one_class(self):
        chance = random.Random(120)
        for tree in BELOW:
            inverse = plain_inverse(plain_table(tree)) if len(tree[0]) < 10 else None
            for bound in BOUNDS:
                k = some_marked(chance, tree, bound)
                told = class_of(tree, k)
                self.assertIs(is_marked(tree, told), True)
                self.assertEqual(class_of(tree, told), told)
                self.assertTrue(all(entry >= 0 for entry in told))
                if inverse is not None:
                    self.assertTrue(is_one_class(inverse, told, k))
                for most in BOUNDS + (10 ** 60,):
                    self.assertEqual(class_of(tree, carried(tree, k, some_cycle(chance, tree, most))), told)

    def test_least_entries_by_the_rule(self):
        chance = random.Random(121)
        for tree in SMALL_BELOW + [tree for tree in BASES if len(tree[0]) <= 5]:
            bounds = plain_least_entries(plain_table(tree))
            for bound in BOUNDS:
                told = class_of(tree, some_marked(chance, tree, bound))
                self.assertTrue(all(0 <= entry < 2 * most for entry, most in zip(told, bounds)))

    def test_other_classes_are_told_otherwise(self):
        for tree in SMALL_BELOW[::2]:
            inverse = plain_inverse(plain_table(tree))
            rows = list(itertools.product(*[range(weight - 2, 5, 2) for weight in tree[0]]))
            for one, other in zip(rows, rows[7:] + rows[:7]):
                same = class_of(tree, one) == class_of(tree, other)
                self.assertEqual(same, is_one_class(inverse, one, other))

    def test_all_classes(self):
        chance = random.Random(122)
        for tree in [tree for tree in BELOW if determinant(tree) <= 100]:
            classes = all_classes(tree)
            self.assertIs(type(classes), tuple)
            self.assertEqual(len(classes), determinant(tree))
            self.assertEqual(len(classes), len(all_loops(tree)))
            self.assertTrue(all(one < other for one, other in zip(classes, classes[1:])))
            for k in chance.sample(classes, min(10, len(classes))):
                self.assertIs(is_marked(tree, k), True)
                self.assertEqual(class_of(tree, k), k)
            for bound in BOUNDS:
                self.assertIn(class_of(tree, some_marked(chance, tree, bound)), classes)

    def test_known_classes(self):
        self.assertEqual(all_classes(EMPTY), ((),))
        self.assertEqual(class_of(EMPTY, ()), ())
        self.assertEqual(all_classes(((-1,), ())), ((1,),))
        self.assertEqual(all_classes(((-2,), ())), ((0,), (2,)))
        self.assertEqual(all_classes(((-3,), ())), ((1,), (3,), (5,)))
        self.assertEqual(class_of(((-3,), ()), (-3,)), (3,))
        self.assertEqual(class_of(((-3,), ()), (10 ** 30 + 1,)), (5,))
        self.assertEqual(all_classes(row_tree((-2, -2))), ((0, 0), (0, 2), (0, 4)))
        self.assertEqual(all_classes(E8), ((0,) * 8,))
        self.assertEqual(class_of(row_tree((-2, -2)), (2, 0)), (0, 4))

    def test_too_many(self):
        for tree in FULL:
            self.assertEqual(determinant(tree), 100)
            self.assertEqual(len(all_classes(tree)), 100)
        self.assertEqual([determinant(tree) for tree in OVER], [101, 101])
        for tree in OVER + GREAT_BELOW + [row_tree((-60,) * 16)]:
            with self.assertRaises(TooMany) as caught:
                all_classes(tree)
            self.assertEqual(caught.exception.limit, 100)

    def test_not_below(self):
        for tree in NOT_BELOW:
            self.assertRaises(NotBelow, class_of, tree, tree[0])
            self.assertRaises(NotBelow, all_classes, tree)


class Levels(unittest.TestCase):
    def test_level(self):
        chance = random.Random(123)
        for tree in SMALL_BELOW + BASES + SOME_BELOW + GREAT_BELOW[:3]:
            inverse = plain_inverse(plain_table(tree))
            for bound in BOUNDS:
                k = some_marked(chance, tree, bound)
                told = level(tree, k)
                self.assertTrue(in_lowest_terms(told), told)
                self.assertEqual(fraction(told), plain_level(inverse, k))
                x = some_cycle(chance, tree, bound)
                self.assertEqual(fraction(level(tree, carried(tree, k, x))), fraction(told) + height(tree, k, x))

    def test_lowest_against_all_rows_of_the_box(self):
        chance = random.Random(124)
        for tree in SMALL_BELOW + [tree for tree in BASES + SOME_BELOW if small(tree)]:
            inverse = plain_inverse(plain_table(tree))
            box = list(itertools.product(*[range(weight, 1 - weight, 2) for weight in tree[0]]))
            for bound in BOUNDS:
                k = some_marked(chance, tree, bound)
                levels = {row: plain_level(inverse, row) for row in box if is_one_class(inverse, row, k)}
                least = min(levels.values())
                self.assertEqual(fraction(lowest(tree, k)), least)
                self.assertTrue(in_lowest_terms(lowest(tree, k)))
                self.assertEqual(lowest_rows(tree, k), tuple(row for row in box if levels.get(row) == least))

    def test_no_row_around_is_lower(self):
        chance = random.Random(125)
        for tree in SMALL_BELOW + [tree for tree in BASES + SOME_BELOW if len(tree[0]) <= 4 and small(tree)]:
            least = fraction(lowest(tree, tree[0]))
            rows = lowest_rows(tree, tree[0])
            for x in itertools.product(range(-3, 4), repeat=len(tree[0])):
                other = carried(tree, chance.choice(rows), x)
                rise = fraction(level(tree, other)) - least
                self.assertTrue(rise > 0 or other in rows)
                self.assertEqual(rise.denominator, 1)

    def test_far_rows_and_same_trees(self):
        chance = random.Random(126)
        for tree in [tree for tree in BASES + SOME_BELOW if small(tree)]:
            k = some_marked(chance, tree, 3)
            far = carried(tree, k, some_cycle(chance, tree, 10 ** 40))
            self.assertEqual(lowest(tree, far), lowest(tree, k))
            self.assertEqual(lowest_rows(tree, far), lowest_rows(tree, k))
            for row in lowest_rows(tree, k):
                self.assertEqual(level(tree, row), lowest(tree, k))
                self.assertTrue(all(abs(entry) <= -weight for entry, weight in zip(row, tree[0])))
        for one, other in same_pairs(127, 40, 8):
            if determinant(one) <= 20 and small(one) and small(other):
                told = sorted(fraction(lowest(one, k)) for k in all_classes(one))
                self.assertEqual(told, sorted(fraction(lowest(other, k)) for k in all_classes(other)))

    def test_known_levels(self):
        self.assertEqual((level(EMPTY, ()), lowest(EMPTY, ()), lowest_rows(EMPTY, ())), ((0, 1), (0, 1), ((),)))
        self.assertEqual(level(((-1,), ()), (1,)), (0, 1))
        self.assertEqual(level(((-1,), ()), (5,)), (3, 1))
        self.assertEqual(lowest_rows(((-1,), ()), (5,)), ((-1,), (1,)))
        self.assertEqual(level(((-2,), ()), (0,)), (-1, 8))
        self.assertEqual(lowest_rows(((-2,), ()), (4,)), ((0,),))
        self.assertEqual(lowest_rows(((-2,), ()), (-2,)), ((-2,), (2,)))
        self.assertEqual(lowest(((-2,), ()), (-2,)), (1, 8))
        self.assertEqual((lowest(E8, (0,) * 8), lowest_rows(E8, (2,) * 8)), ((-1, 1), ((0,) * 8,)))
        self.assertEqual(lowest(SEVEN, canonical_row(SEVEN)), (0, 1))
        self.assertIn(canonical_row(SEVEN), lowest_rows(SEVEN, (1, 0, 1, 1)))

    def test_too_many(self):
        self.assertEqual([box_size(tree) for tree in JUST + TOO_GREAT], [20000] * 3 + [20007, 20010])
        for tree in JUST:
            told = lowest_rows(tree, canonical_row(tree))
            self.assertEqual(lowest(tree, canonical_row(tree)), level(tree, told[0]))
        for tree in TOO_GREAT + GREAT_BELOW + [row_tree((-60,) * 16), twigs((-3,) * 16)]:
            for act in (lowest, lowest_rows):
                with self.assertRaises(TooMany) as caught:
                    act(tree, canonical_row(tree))
                self.assertEqual(caught.exception.limit, 20000)
            level(tree, canonical_row(tree))

    def test_not_below(self):
        for tree in NOT_BELOW + [star((-1,) * 16), star((-60,) + (0,) * 15)]:
            for act in (level, lowest, lowest_rows):
                self.assertRaises(NotBelow, act, tree, tree[0])


if __name__ == "__main__":
    unittest.main()
