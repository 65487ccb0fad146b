"""[18] and [19]: how loops link, and rows behind moves."""

import random
import unittest
from fractions import Fraction

from blowntrees.blowing import blown_at, blown_on
from blowntrees.errors import Nought, TooGreat, TooMany
from blowntrees.linkings import blown_row, linking, linking_row
from blowntrees.listings import listed
from blowntrees.loops import all_loops, loop_of
from blowntrees.tables import determinant, row_of
from belows import BASES, NOUGHTS, WHOLE, blown, blown_up, same_pairs, shuffled, up_moves
from exact import form, fraction, in_lowest_terms, plain_inverse, plain_table
from samples import E8, EMPTY, SMALL, row_tree, some_listing, some_trees, star, twigs
from test_loops import BOUNDS, FULL, OVER, added, some_row

LITTLE = [tree for tree in SMALL + some_trees(100, 30, (4, 5), range(-5, 6)) if determinant(tree) != 0]
FEW_LOOPS = [tree for tree in LITTLE + BASES if abs(determinant(tree)) <= 30]


def modulo_one(number):
    return number - number.__floor__()


class Linkings(unittest.TestCase):
    def test_against_the_inverse(self):
        chance = random.Random(101)
        for tree in LITTLE[::2] + WHOLE:
            inverse = plain_inverse(plain_table(tree))
            for bound in BOUNDS:
                one, other = some_row(chance, tree, bound), some_row(chance, tree, bound)
                told = linking(tree, one, other)
                self.assertTrue(in_lowest_terms(told), told)
                self.assertEqual(fraction(told), modulo_one(Fraction(-form(inverse, one, other))))
                self.assertEqual(linking(tree, other, one), told)

    def test_it_depends_on_the_loops_and_adds_up(self):
        chance = random.Random(102)
        for tree in LITTLE[::3] + WHOLE:
            one, other, third = [some_row(chance, tree, bound) for bound in BOUNDS]
            told = fraction(linking(tree, one, other))
            self.assertTrue(0 <= told < 1)
            cycle = some_row(chance, tree, 10 ** 12)
            self.assertEqual(fraction(linking(tree, added(one, row_of(tree, cycle)), other)), told)
            self.assertEqual(fraction(linking(tree, one, loop_of(tree, other))), told)
            self.assertEqual(linking(tree, row_of(tree, cycle), other), (0, 1))
            self.assertEqual(linking(tree, other, row_of(tree, cycle)), (0, 1))
            both = told + fraction(linking(tree, third, other))
            self.assertEqual(fraction(linking(tree, added(one, third), other)), modulo_one(both))

    def test_only_zeros_link_with_all_by_nought(self):
        for tree in FEW_LOOPS[::2]:
            loops = all_loops(tree)
            for loop in loops:
                links = any(linking(tree, loop, other) != (0, 1) for other in loops)
                self.assertEqual(links, loop != (0,) * len(tree[0]))

    def test_known_linkings(self):
        self.assertEqual(linking(EMPTY, (), ()), (0, 1))
        self.assertEqual(linking(((-5,), ()), (1,), (1,)), (1, 5))
        self.assertEqual(linking(((5,), ()), (1,), (1,)), (4, 5))
        self.assertEqual(linking(((-5,), ()), (2,), (-1,)), (3, 5))
        self.assertEqual(linking(((-4,), ()), (2,), (3,)), (1, 2))
        self.assertEqual(linking(row_tree((-2, -2)), (1, 0), (1, 0)), (2, 3))
        self.assertEqual(linking(row_tree((-2, -2)), (1, 0), (0, 1)), (1, 3))
        self.assertEqual(linking(E8, (1,) * 8, (7, -3) * 4), (0, 1))

    def test_nought(self):
        for tree in NOUGHTS + [((0,), ()), row_tree((-1, -1))]:
            row = (1,) * len(tree[0])
            self.assertRaises(Nought, linking, tree, row, row)
            self.assertRaises(Nought, linking_row, tree)


class LinkingRows(unittest.TestCase):
    def test_of_each_loop_with_itself(self):
        for tree in FEW_LOOPS:
            told = linking_row(tree)
            links = [linking(tree, loop, loop) for loop in all_loops(tree)]
            self.assertEqual(told, tuple(sorted(links, key=fraction)))
            self.assertIs(type(told), tuple)

    def test_same_trees(self):
        chance = random.Random(103)
        for one, other in same_pairs(104, 40):
            if determinant(one) <= 400:
                self.assertEqual(linking_row(one), linking_row(other))
        for tree in LITTLE[::3]:
            if abs(determinant(tree)) <= 400:
                self.assertEqual(linking_row(shuffled(chance, blown_up(chance, tree, 9))), linking_row(tree))

    def test_known_rows(self):
        self.assertEqual(linking_row(EMPTY), ((0, 1),))
        self.assertEqual(linking_row(E8), ((0, 1),))
        self.assertEqual(linking_row(((-5,), ())), ((0, 1), (1, 5), (1, 5), (4, 5), (4, 5)))
        self.assertEqual(linking_row(((5,), ())), ((0, 1), (1, 5), (1, 5), (4, 5), (4, 5)))
        self.assertEqual(linking_row(((-3,), ())), ((0, 1), (1, 3), (1, 3)))
        self.assertEqual(linking_row(((3,), ())), ((0, 1), (2, 3), (2, 3)))
        # Squares modulo 8 over 8, and modulo 4 over 4.
        self.assertEqual(linking_row(((-8,), ())), ((0, 1), (0, 1)) + ((1, 8),) * 4 + ((1, 2),) * 2)
        self.assertEqual(linking_row(((-4,), ())), ((0, 1), (0, 1), (1, 4), (1, 4)))
        self.assertEqual(linking_row(star((-2, -2, -2, -2))), ((0, 1), (0, 1), (0, 1), (0, 1)))

    def test_too_many(self):
        for tree in FULL:
            self.assertEqual(len(linking_row(tree)), 400)
        for tree in OVER + [twigs((60,) * 16)]:
            with self.assertRaises(TooMany) as caught:
                linking_row(tree)
            self.assertEqual(caught.exception.limit, 400)


class BlownRows(unittest.TestCase):
    def refused(self, kind, limit, *arguments):
        with self.assertRaises(kind) as caught:
            blown_row(*arguments)
        self.assertEqual(caught.exception.limit, limit)

    def test_the_linking_stays(self):
        chance = random.Random(105)
        for tree in WHOLE + BASES[1:]:
            listing = some_listing(chance, len(tree[0]))
            moves = [("list", listing)] + (up_moves(tree)[:6] if len(tree[0]) < 16 else [])
            for move in moves:
                new = listed(tree, listing) if move[0] == "list" else blown(tree, move)
                for bound in BOUNDS:
                    one, other = some_row(chance, tree, bound), some_row(chance, tree, bound)
                    told = linking(new, blown_row(tree, move, one), blown_row(tree, move, other))
                    self.assertEqual(told, linking(tree, one, other))

    def test_entries(self):
        chance = random.Random(106)
        for tree in WHOLE + NOUGHTS:
            row = some_row(chance, tree, 10 ** 20)
            listing = some_listing(chance, len(row))
            self.assertEqual(blown_row(tree, ("list", listing), row), tuple(row[place] for place in listing))
            if len(row) < 16:
                for move in up_moves(tree):
                    self.assertEqual(blown_row(tree, move, row), row + (0,))

    def test_known_rows(self):
        self.assertEqual(blown_row(EMPTY, ("list", ()), ()), ())
        self.assertEqual(blown_row(((0,), ()), ("at", 0), (-7,)), (-7, 0))
        self.assertEqual(blown_row(row_tree((-1, -1)), ("on", 0, 1), (3, 4)), (3, 4, 0))
        self.assertEqual(blown_row(row_tree((1, 2, 3)), ("list", (2, 0, 1)), (10, 20, 30)), (30, 10, 20))

    def test_errors_of_the_moves(self):
        for tree in (row_tree((-2,) * 16), row_tree((0,) * 16), row_tree((-60,) * 16), star((0,) * 16)):
            row = (1,) * 16
            for place in range(16):
                self.refused(TooMany, 16, tree, ("at", place), row)
            for i, j in tree[1]:
                self.refused(TooMany, 16, tree, ("on", i, j), row)
            self.assertEqual(blown_row(tree, ("list", tuple(range(16))), row), row)
        for tree in (row_tree((-60, 5, -60, -59, -59)), star((0, -60, -60, 0, 0)), row_tree((-60,) * 5)):
            row = (1, 2, 3, 4, 5)
            for place in range(5):
                if tree[0][place] == -60:
                    self.refused(TooGreat, 60, tree, ("at", place), row)
                    self.assertRaises(TooGreat, blown_at, tree, place)
            for i, j in tree[1]:
                if -60 in (tree[0][i], tree[0][j]):
                    self.refused(TooGreat, 60, tree, ("on", i, j), row)
                    self.assertRaises(TooGreat, blown_on, tree, (i, j))
            self.assertEqual(blown_row(tree, ("list", (4, 3, 2, 1, 0)), row), (5, 4, 3, 2, 1))


if __name__ == "__main__":
    unittest.main()
