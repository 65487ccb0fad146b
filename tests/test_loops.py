"""[16], [17], and loop_order of [18]."""

import math
import random
import unittest
from fractions import Fraction

from blowntrees.chains import chain_of, chain_tree
from blowntrees.errors import Nought, TooMany
from blowntrees.loops import all_loops, loop_of, loop_order, loop_sizes
from blowntrees.tables import determinant, row_of
from belows import BASES, BELOW, NOUGHTS, SEVEN, WHOLE, blown_up, same_pairs, shuffled
from exact import minors_divisor, plain_inverse, plain_least_entries, plain_sizes, plain_table, times
from samples import E8, EMPTY, SMALL, all_trees, row_tree, some_trees, star, twigs

LITTLE = [tree for tree in SMALL + all_trees(4, (-3, 2))[::3] + some_trees(90, 30, (4, 5), range(-5, 6))
          if determinant(tree) != 0]
# Trees with the determinants 400, -400, 401 and -401.
FULL = [chain_tree(chain_of((400, 7))), row_tree((19, -21))]
OVER = [chain_tree(chain_of((401, 7))), row_tree((20, -20))]
BOUNDS = (1, 9, 10 ** 30)


def some_row(chance, tree, bound):
    return tuple(chance.randint(-bound, bound) for _ in tree[0])


def added(one, other):
    return tuple(a + b for a, b in zip(one, other))


def is_of_cycle(inverse, row):
    """Tell whether a row is that of a cycle, by fractions."""
    return all(entry.denominator == 1 for entry in times(inverse, row))


class Told(unittest.TestCase):
    def test_least_entries_by_the_rule(self):
        chance = random.Random(91)
        for tree in LITTLE:
            rows = plain_table(tree)
            inverse = plain_inverse(rows)
            bounds = plain_least_entries(rows)
            for bound in BOUNDS:
                row = some_row(chance, tree, bound)
                told = loop_of(tree, row)
                self.assertTrue(all(0 <= entry < most for entry, most in zip(told, bounds)), tree)
                self.assertTrue(is_of_cycle(inverse, [a - b for a, b in zip(told, row)]))

    def test_the_same_for_one_loop(self):
        chance = random.Random(92)
        for tree in LITTLE[::4] + WHOLE:
            inverse = plain_inverse(plain_table(tree))
            for bound in BOUNDS:
                row = some_row(chance, tree, bound)
                told = loop_of(tree, row)
                self.assertEqual(loop_of(tree, told), told)
                self.assertTrue(all(type(entry) is int and entry >= 0 for entry in told))
                self.assertTrue(is_of_cycle(inverse, [a - b for a, b in zip(told, row)]))
                for most in BOUNDS:
                    cycle = some_row(chance, tree, most)
                    self.assertEqual(loop_of(tree, added(row, row_of(tree, cycle))), told)
                    self.assertEqual(loop_of(tree, row_of(tree, cycle)), (0,) * len(row))

    def test_known_loops(self):
        self.assertEqual(loop_of(EMPTY, ()), ())
        self.assertEqual(loop_of(((-5,), ()), (-1,)), (4,))
        self.assertEqual(loop_of(((5,), ()), (-1,)), (4,))
        self.assertEqual(loop_of(((5,), ()), (12,)), (2,))
        self.assertEqual(loop_of(((-1,), ()), (10 ** 40,)), (0,))
        # (-2, 1) and (1, -2) give (0, 3) and (1, 1).
        self.assertEqual(loop_of(row_tree((-2, -2)), (1, 0)), (0, 2))
        self.assertEqual(loop_of(row_tree((-2, -2)), (0, -1)), (0, 2))
        self.assertEqual(loop_of(star((-2, -2, -2, -2)), (0, 1, 0, 0)), (0, 0, 1, 1))
        self.assertEqual(loop_of(E8, (5, -3, 7, 10 ** 30, 2, -9, 1, 4)), (0,) * 8)
        self.assertEqual(loop_of(row_tree((-2,) * 16), (1,) + (0,) * 15), (0,) * 15 + (16,))

    def test_nought(self):
        for tree in NOUGHTS + [((0,), ()), row_tree((-1, -1)), star((0,) * 16)]:
            row = (1,) * len(tree[0])
            for act, arguments in [(loop_of, (tree, row)), (all_loops, (tree,)), (loop_sizes, (tree,)),
                                   (loop_order, (tree, row))]:
                self.assertRaises(Nought, act, *arguments)


class AllLoops(unittest.TestCase):
    def few(self):
        return [tree for tree in LITTLE + WHOLE if abs(determinant(tree)) <= 400]

    def test_all_loops(self):
        chance = random.Random(93)
        for tree in self.few():
            loops = all_loops(tree)
            self.assertIs(type(loops), tuple)
            self.assertEqual(len(loops), abs(determinant(tree)))
            self.assertTrue(all(one < other for one, other in zip(loops, loops[1:])))
            for row in chance.sample(loops, min(20, len(loops))):
                self.assertEqual(loop_of(tree, row), row)
            for bound in BOUNDS:
                self.assertIn(loop_of(tree, some_row(chance, tree, bound)), loops)

    def test_no_two_are_one_loop(self):
        for tree in LITTLE[::5] + [E8, row_tree((-2,) * 9), star((-3, -3, -3, -3))]:
            inverse = plain_inverse(plain_table(tree))
            loops = all_loops(tree)[:40]
            for one in loops:
                for other in loops:
                    differ = [a - b for a, b in zip(one, other)]
                    self.assertEqual(is_of_cycle(inverse, differ), one == other)

    def test_known_loops(self):
        self.assertEqual(all_loops(EMPTY), ((),))
        self.assertEqual(all_loops(E8), ((0,) * 8,))
        self.assertEqual(all_loops(((-3,), ())), ((0,), (1,), (2,)))
        self.assertEqual(all_loops(((3,), ())), ((0,), (1,), (2,)))
        self.assertEqual(all_loops(row_tree((-2, -2))), ((0, 0), (0, 1), (0, 2)))
        self.assertEqual(all_loops(star((-2, -2, -2, -2))), tuple((0, 0, a, b) for a in (0, 1) for b in (0, 1)))

    def test_too_many(self):
        for tree in FULL:
            self.assertEqual(abs(determinant(tree)), 400)
            self.assertEqual(len(all_loops(tree)), 400)
        for tree in OVER + [row_tree((-60, -60)), twigs((60,) * 16)]:
            self.assertGreater(abs(determinant(tree)), 400)
            with self.assertRaises(TooMany) as caught:
                all_loops(tree)
            self.assertEqual(caught.exception.limit, 400)
        self.assertEqual([determinant(tree) for tree in FULL + OVER], [400, -400, 401, -401])


class Sizes(unittest.TestCase):
    def test_by_minors(self):
        for tree in LITTLE + all_trees(4, (-2, 3))[::7]:
            rows = plain_table(tree)
            if determinant(tree) == 0:
                continue
            every = range(len(rows))
            found = [minors_divisor(rows, size, every) for size in range(len(rows) + 1)]
            sizes = [found[k + 1] // found[k] for k in every]
            self.assertEqual(loop_sizes(tree), tuple(size for size in sizes if size > 1))

    def test_by_adding_rows_and_columns(self):
        for tree in WHOLE + BELOW:
            told = loop_sizes(tree)
            self.assertEqual(told, plain_sizes(plain_table(tree)))
            self.assertEqual(math.prod(told), abs(determinant(tree)))
            self.assertTrue(all(other % one == 0 for one, other in zip(told, told[1:])))
            self.assertTrue(all(type(size) is int and size > 1 for size in told))

    def test_same_trees(self):
        chance = random.Random(94)
        for one, other in same_pairs(95, 60):
            self.assertEqual(loop_sizes(one), loop_sizes(other))
        for tree in WHOLE:
            self.assertEqual(loop_sizes(shuffled(chance, tree)), loop_sizes(tree))
            if min(tree[0], default=0) > -45 and len(tree[0]) < 16:
                self.assertEqual(loop_sizes(blown_up(chance, tree, 16)), loop_sizes(tree))

    def test_known_sizes(self):
        for tree, sizes in [(EMPTY, ()), (E8, ()), (SEVEN, ()), (((1,), ()), ()), (((-60,), ()), (60,)),
                            (row_tree((-2,) * 16), (17,)), (star((-2, -2, -2, -2)), (2, 2)),
                            (star((-4, -3, -3, -3)), (3, 27)), (star((-2, -2, -4, -4)), (2, 16)),
                            (row_tree((0, 0)), ()), (star((7,) + (-6,) * 5), (6, 6, 6, 6 * 47)),
                            (star((3, 10, 10, 0)), (10, 10)),
                            (star((-9,) + (-2,) * 15), (2,) * 13 + (6,)), (row_tree((4, 2, 4)), (24,))]:
            self.assertEqual(loop_sizes(tree), sizes, tree)


class Orders(unittest.TestCase):
    def test_the_least_number(self):
        chance = random.Random(96)
        for tree in LITTLE[::3] + WHOLE:
            inverse = plain_inverse(plain_table(tree))
            for bound in BOUNDS:
                row = some_row(chance, tree, bound)
                told = loop_order(tree, row)
                self.assertEqual(told, math.lcm(*[Fraction(entry).denominator for entry in times(inverse, row)]))
                self.assertIs(type(told), int)
                self.assertEqual(loop_of(tree, tuple(told * entry for entry in row)), (0,) * len(row))
                for part in range(1, min(told, 12)):
                    self.assertTrue(any(loop_of(tree, tuple(part * entry for entry in row))))
                self.assertEqual(loop_order(tree, row_of(tree, row)), 1)

    def test_known_orders(self):
        self.assertEqual(loop_order(EMPTY, ()), 1)
        self.assertEqual(loop_order(E8, (1, 2, 3, 4, 5, 6, 7, -8)), 1)
        self.assertEqual([loop_order(((-6,), ()), (k,)) for k in range(-1, 7)], [6, 1, 6, 3, 2, 3, 6, 1])
        self.assertEqual([loop_order(((6,), ()), (k,)) for k in range(-1, 7)], [6, 1, 6, 3, 2, 3, 6, 1])
        self.assertEqual(loop_order(row_tree((-2,) * 16), (1,) + (0,) * 15), 17)
        for tree in [tree for tree in BASES if determinant(tree) <= 60]:
            orders = [loop_order(tree, row) for row in all_loops(tree)]
            self.assertEqual(max(orders), max(loop_sizes(tree), default=1))
            self.assertEqual(orders.count(1), 1)


if __name__ == "__main__":
    unittest.main()
