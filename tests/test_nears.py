"""[26] and [29]: near places, and the rows and roots that come from them."""

import random
import unittest
from fractions import Fraction

from blowntrees.blowing import blown_on
from blowntrees.classes import lowest
from blowntrees.cycles import is_rational, least_cycle
from blowntrees.errors import NotBelow, NotNear, TooMany
from blowntrees.heights import canonical_row, standing
from blowntrees.listings import listed
from blowntrees.nears import near_places, near_root, near_row
from blowntrees.roots import rank_left, root_by_rows, root_of_row
from belows import (BASES, BELOW, LESS_LONG, LONG, NONE_NEAR, NOT_BELOW, SEVEN, SMALL_BELOW, SOME_BELOW, box_size,
                    same_pairs, some_belows)
from exact import fraction, plain_inverse, plain_table, times
from plain import plain_climb, plain_height
from samples import E8, EMPTY, row_tree, some_listing, star, twigs
from test_roots import RICH

SHORT = [tree for tree in BELOW if tree not in (LONG, LESS_LONG)]
WIDE = star((-1, -2, -3, -7, -43))
MORE = some_belows(150, 60, range(3, 9), (-1, -1, -2, -2, -3, -4, -7))


def spiral(tree, tie, many):
    """Return a tree blown up on a tie, and on what comes between its last places."""
    while len(tree[0]) < many:
        tree = blown_on(tree, tie)
        last = len(tree[0]) - 1
        tie = (tie[1], last)
    return tree


# Near at the place 0, where the steps grow by far more than the heights.
STEEP = spiral(star((-1, -2, -3, -7, -50)), (0, 1), 16)
STEEP_AND_WIDE = spiral(WIDE, (0, 1), 16)
# Trees with the bound at the place 0, rounded up: the row is read from 0 to it.
WIDTHS = [(((-1, -3, -4, -2, -2, -3, -12, -38), ((0, 1), (0, 4), (0, 7), (1, 2), (2, 3), (4, 5), (5, 6))), 499),
          (((-1, -3, -2, -4, -2, -2, -3, -2, -3, -2, -3, -7, -2, -2, -2, -2),
            ((0, 1), (0, 6), (0, 11), (1, 2), (2, 3), (3, 4), (4, 5), (6, 7), (7, 8), (8, 9), (9, 10), (11, 12),
             (12, 13), (13, 14), (14, 15))), 499),
          (((-1, -4, -3, -3, -3, -2, -2, -2, -2, -3),
            ((0, 1), (0, 3), (0, 9), (1, 2), (3, 4), (4, 5), (5, 6), (6, 7), (7, 8))), 500),
          (((-1, -28, -3, -2, -4, -7, -2, -2, -2, -3, -3, -2, -2),
            ((0, 1), (0, 2), (0, 5), (0, 9), (2, 3), (3, 4), (5, 6), (6, 7), (7, 8), (9, 10), (10, 11), (11, 12))), 500)]


def unit(tree, place):
    return tuple(int(other == place) for other in range(len(tree[0])))


def plain_bound(tree, place):
    """Return the entry at a place of minus the inverse times the canonical row."""
    return -times(plain_inverse(plain_table(tree)), canonical_row(tree))[place]


class NearPlaces(unittest.TestCase):
    def test_whatever_the_sequence(self):
        chance = random.Random(151)
        for tree in SHORT + MORE:
            near = near_places(tree)
            self.assertIs(type(near), tuple)
            self.assertEqual(list(near), sorted(near))
            for place in range(len(tree[0])):
                _, met = plain_climb(chance, tree, unit(tree, place), (place,))
                self.assertEqual(place in near, all(entry == 1 for entry in met))

    def test_rational_trees(self):
        for tree in SHORT:
            if is_rational(tree):
                self.assertEqual(near_places(tree), tuple(range(len(tree[0]))))

    def test_trees_listed_anew(self):
        chance = random.Random(152)
        for tree in SOME_BELOW + BASES:
            listing = some_listing(chance, len(tree[0]))
            near = sorted(listing.index(place) for place in near_places(tree))
            self.assertEqual(near_places(listed(tree, listing)), tuple(near))

    def test_known_near_places(self):
        for tree, near in [(EMPTY, ()), (((-1,), ()), (0,)), (E8, tuple(range(8))), (SEVEN, (0,)), (WIDE, (0,)),
                           (star((-1, -3, -3, -4)), (0,)),
                           (twigs((-3,) * 16), tuple(range(16)))] + [(tree, ()) for tree in NONE_NEAR]:
            self.assertEqual(near_places(tree), near, tree)
        kinds = {0 if not near_places(tree) else 2 if len(near_places(tree)) == len(tree[0]) else 1 for tree in SHORT}
        self.assertEqual(kinds, {0, 1, 2})

    def test_too_many(self):
        for tree in (LONG, LESS_LONG):
            with self.assertRaises(TooMany) as caught:
                near_places(tree)
            self.assertEqual(caught.exception.limit, 5000)


class NearRows(unittest.TestCase):
    def test_heights_of_the_cycles(self):
        chance = random.Random(153)
        for tree in SHORT:
            for place in near_places(tree)[:2]:
                told = near_row(tree, place, 12)
                x = (0,) * len(tree[0])
                for i, height in enumerate(told):
                    self.assertEqual((x[place], plain_height(tree, canonical_row(tree), x)), (i, height))
                    x = tuple(entry + (at == place) for at, entry in enumerate(x))
                    x, _ = plain_climb(chance, tree, x, (place,))

    def test_the_beginning_of_a_longer_row(self):
        for tree in [SEVEN, WIDE, E8, ((-1,), ()), ((-60,), ()), star((-1, -3, -3, -4)), row_tree((-2,) * 16)]:
            whole = near_row(tree, 0, 500)
            self.assertEqual(len(whole), 500)
            for count in (1, 2, 3, 10, 77, 499):
                self.assertEqual(near_row(tree, 0, count), whole[:count])

    def test_it_never_falls_from_the_bound_on(self):
        for tree in SHORT:
            for place in near_places(tree)[:2]:
                bound = plain_bound(tree, place)
                if bound < 100 and len(tree[0]) < 10:
                    row = near_row(tree, place, max(0, bound.__ceil__()) + 20)
                    for i in range(len(row) - 1):
                        self.assertTrue(row[i] <= row[i + 1] or i < bound)

    def test_known_rows(self):
        self.assertEqual(near_row(((-1,), ()), 0, 6), (0, 1, 3, 6, 10, 15))
        self.assertEqual(near_row(((-3,), ()), 0, 5), (0, 1, 5, 12, 22))
        self.assertEqual(near_row(E8, 2, 8), (0, 1, 1, 1, 1, 1, 1, 2))
        self.assertEqual(near_row(SEVEN, 0, 14), (0, 1, 0, 0, 0, 0, 0, 1, 1, 1, 1, 1, 1, 2))
        self.assertEqual(near_row(star((-1, -3, -3, -4)), 0, 6), (0, 1, 0, 0, 1, 1))

    def test_not_near(self):
        found = 0
        for tree in SHORT + MORE:
            near = near_places(tree)
            for place in range(len(tree[0])):
                if place not in near:
                    self.assertRaises(NotNear, near_row, tree, place, 1)
                    self.assertRaises(NotNear, near_root, tree, place)
                    found += 1
        self.assertGreater(found, 50)

    def test_too_many_steps_to_see(self):
        _, met = plain_climb(random.Random(154), LESS_LONG, unit(LESS_LONG, 2), (2,))
        self.assertTrue(5000 < len(met) <= 20000)
        for act, arguments in [(near_row, (LESS_LONG, 2, 1)), (near_row, (LESS_LONG, 2, 500)), (near_root, (LESS_LONG, 2))]:
            self.assertRaises(NotNear, act, *arguments)
        # The place is not near, but more steps are needed to the end.
        for act, arguments in [(near_row, (LONG, 6, 1)), (near_row, (LONG, 6, 500)), (near_root, (LONG, 6))]:
            with self.assertRaises(TooMany) as caught:
                act(*arguments)
            self.assertEqual(caught.exception.limit, 20000)
        self.assertEqual(near_row(LONG, 0, 3)[:2], (0, 1))
        self.assertRaises(NotNear, near_row, LONG, 2, 1)

    def test_too_many_steps_for_all_cycles(self):
        chance = random.Random(155)
        x = (0,) * 16
        steps = [0]
        while steps[-1] <= 20000:
            x = tuple(entry + (at == 0) for at, entry in enumerate(x))
            x, met = plain_climb(chance, STEEP, x, (0,))
            steps.append(steps[-1] + len(met))
        self.assertTrue(1 < len(steps) < 400)
        self.assertEqual(len(near_row(STEEP, 0, len(steps) - 1)), len(steps) - 1)
        for count in (len(steps), 500):
            self.refused(20000, near_row, STEEP, 0, count)

    def refused(self, limit, act, *arguments):
        with self.assertRaises(TooMany) as caught:
            act(*arguments)
        self.assertEqual(caught.exception.limit, limit)


class NearRoots(unittest.TestCase):
    def test_of_the_row(self):
        compared = 0
        for tree in SHORT + MORE:
            for place in near_places(tree)[:2]:
                count = max(0, plain_bound(tree, place).__ceil__()) + 1
                if count > 60 or len(tree[0]) > 12:
                    continue
                told = near_root(tree, place)
                self.assertEqual(told, root_of_row(near_row(tree, place, count)))
                self.assertEqual(told, root_of_row(near_row(tree, place, count + 15)))
                compared += 1
        self.assertGreater(compared, 100)

    def test_against_the_root_by_rows(self):
        rich = 0
        for tree in RICH + BASES + SMALL_BELOW[::3] + MORE:
            if box_size(tree) > 5000:
                continue
            for place in near_places(tree):
                told = near_root(tree, place)
                self.assertEqual(told, root_by_rows(tree, canonical_row(tree)))
                rich += told[0] > 0
                least = fraction(lowest(tree, canonical_row(tree))) + fraction(standing(tree)) / 8
                count = max(0, plain_bound(tree, place).__ceil__()) + 1
                self.assertEqual(Fraction(min(near_row(tree, place, count))), least)
        self.assertGreater(rich, 10)

    def test_all_near_places_and_same_trees(self):
        for tree in SHORT:
            if plain_height(tree, canonical_row(tree), least_cycle(tree)) < -3 or len(tree[0]) > 10:
                continue
            self.assertLessEqual(len({near_root(tree, place) for place in near_places(tree)}), 1)
        for one, other in same_pairs(156, 50, 10):
            near, there = near_places(one), near_places(other)
            if near and there:
                self.assertEqual(near_root(one, near[0]), near_root(other, there[0]))

    def test_known_roots(self):
        self.assertEqual(near_root(SEVEN, 0), (1, ((0, ()), (0, ()))))
        self.assertEqual(near_root(E8, 5), (0, ()))
        self.assertEqual(near_root(star((-1, -9, -9, -9, -9)), 0), (3, ((0, ()), (2, ()))))
        root = near_root(star((-1, -2, -3, -8, -30)), 0)
        self.assertEqual(plain_bound(star((-1, -2, -3, -8, -30)), 0), 122)
        self.assertEqual(root, root_of_row(near_row(star((-1, -2, -3, -8, -30)), 0, 500)))
        self.assertGreater(rank_left(root), 0)

    def test_more_than_five_hundred_entries(self):
        self.assertEqual(plain_bound(WIDE, 0), 1808)
        for tree in (WIDE, STEEP_AND_WIDE):
            with self.assertRaises(TooMany) as caught:
                near_root(tree, 0)
            self.assertEqual(caught.exception.limit, 500)
        # This one also needs more than 20000 steps, which comes behind that.
        self.assertRaises(TooMany, near_row, STEEP_AND_WIDE, 0, 500)

    def test_too_many_steps(self):
        self.assertLess(plain_bound(STEEP, 0), 499)
        with self.assertRaises(TooMany) as caught:
            near_root(STEEP, 0)
        self.assertEqual(caught.exception.limit, 20000)

    def test_just_five_hundred_entries(self):
        for tree, bound in WIDTHS:
            self.assertEqual(plain_bound(tree, 0).__ceil__(), bound)
            if bound + 1 <= 500:
                self.assertEqual(near_root(tree, 0), root_of_row(near_row(tree, 0, bound + 1)))
            else:
                with self.assertRaises(TooMany) as caught:
                    near_root(tree, 0)
                self.assertEqual(caught.exception.limit, 500)


class NotBelowZero(unittest.TestCase):
    def test_not_below(self):
        for tree in NOT_BELOW:
            for act, arguments in [(near_places, (tree,)), (near_row, (tree, 0, 500)), (near_root, (tree, 0))]:
                self.assertRaises(NotBelow, act, *arguments)


if __name__ == "__main__":
    unittest.main()
