"""[30], [31], [32]: stars, their trees and rows, stars of numbers apart."""

import itertools
import math
import random
import unittest
from fractions import Fraction

from blowntrees.classes import lowest
from blowntrees.errors import NotApart, NotBelow, NotStar, TooGreat, TooMany
from blowntrees.heights import canonical_row
from blowntrees.listings import least_form, listed
from blowntrees.nears import near_places, near_root, near_row
from blowntrees.roots import rank_left, root_by_rows
from blowntrees.stars import corner_sum, sphere_star, star_of, star_row, star_sum, star_tree
from blowntrees.tables import determinant, is_below
from blowntrees.trees import tree_breach
from belows import SEVEN, box_size
from exact import exchanged, fraction, in_lowest_terms, plain_determinant, plain_table
from refusing import Refusing
from samples import E8, EMPTY, FEW, GREAT, SMALL, row_tree, some_listing, star
from test_chains import plain_chain, plain_number

BIG = 10 ** 40


def arm_of(chain):
    number = plain_number(chain)
    return (number.numerator, number.denominator)


def star_of_chains(middle, *chains):
    return (middle, tuple(sorted(arm_of(chain) for chain in chains)))


def some_stars(seed, count, longest, entries):
    """Return stars by chance whose trees have at most 16 places."""
    chance = random.Random(seed)
    stars = []
    while len(stars) < count:
        chains = [[chance.choice(entries) for _ in range(chance.randint(1, longest))]
                  for _ in range(chance.randint(3, 6))]
        if sum(map(len, chains)) < 16:
            stars.append(star_of_chains(chance.randint(-60, 60), *chains))
    return stars


STARS = ([(-60, ((2, 1),) * 3), (60, ((2, 1),) * 6), (0, ((5, 2),) * 4), (-1, ((2, 1), (3, 1), (7, 1))),
          (-1, ((2, 1), (3, 1), (6, 1))), (-2, ((2, 1),) * 4), (-2, ((2, 1), (3, 2), (5, 4))),
          star_of_chains(-3, (2,) * 13, (60,), (60,)), star_of_chains(7, (2, 60, 3), (2, 60, 3), (3, 2), (2,), (4,) * 6),
          star_of_chains(-2, (2,) * 5, (3,) * 5, (4,) * 5)]
         + some_stars(200, 60, 4, (2, 2, 3, 4, 60)) + some_stars(201, 60, 12, (2, 3, 5)))
# Below zero or near it.
LOW = [(middle, arms) for at, (_, arms) in enumerate(STARS) for middle in (-1 - at % 2, -3)]
LONG = [(-1, ((3, 1), (BIG, 1), (BIG + 1, BIG // 3))), (-2, ((BIG, BIG - 1), (BIG + 1, 7), (BIG + 3, BIG // 7))),
        (-6, tuple((BIG + k, BIG + k - 1) for k in range(6))), (-60, ((1001, 1000),) * 6), (-3, ((18, 17),) * 3)]


def plain_star_tree(told):
    """Return the tree of a star by the words of the document."""
    weights, ties = [told[0]], []
    for arm in told[1]:
        before = 0
        for entry in plain_chain(fraction(arm)):
            ties.append((before, len(weights)))
            before = len(weights)
            weights.append(-entry)
    return (tuple(weights), tuple(sorted(ties)))


def plain_sum(told):
    return told[0] + sum(Fraction(b, a) for a, b in told[1])


def plain_row(told, count):
    row = [0]
    for i in range(count - 1):
        row.append(row[i] + 1 - i * told[0] - sum(math.ceil(Fraction(i * b, a)) for a, b in told[1]))
    return tuple(row)


class StarTrees(Refusing):
    def test_star_tree(self):
        for told in STARS:
            tree = star_tree(told)
            self.assertIsNone(tree_breach(tree))
            self.assertEqual(tree, plain_star_tree(told))
        self.assertEqual(star_tree((-1, ((2, 1), (3, 1), (7, 1)))), SEVEN)
        self.assertEqual(star_tree((5, ((2, 1), (5, 2), (5, 3)))),
                         ((5, -2, -3, -2, -2, -3), ((0, 1), (0, 2), (0, 4), (2, 3), (4, 5))))

    def test_middles(self):
        for middle in range(-60, 61):
            self.assertEqual(star_tree((middle, ((2, 1),) * 3)), star((middle, -2, -2, -2)))

    def test_errors(self):
        for told in [(0, ((2, 1), (2, 1), (18, 17))), (0, ((2, 1), (61, 1), (BIG, BIG - 1))), LONG[2],
                     (-1, ((2, 1), (3, 1), arm_of((3,) * 17))), (0, ((100, 1), (101, 100), (102, 1)))]:
            self.refused(TooMany, {"limit": 16}, star_tree, told)
        # Each chain is short enough here, but not all together.
        for told in [(0, ((2, 1), (2, 1), (17, 16))), star_of_chains(0, (2,) * 14, (2,), (2,)),
                     star_of_chains(0, (61,) * 14, (2,), (2,)), star_of_chains(0, *[(BIG, 2, 2)] * 6),
                     star_of_chains(0, (2,) * 16, (61,), (BIG,))]:
            self.refused(TooMany, {"limit": 16}, star_tree, told)
        for told in [(0, ((2, 1), (2, 1), (61, 1))), (0, ((BIG, 1),) * 6), star_of_chains(60, (2,) * 12, (2,), (2, 61)),
                     star_of_chains(-60, (2, 3, 61, 2), (2,), (60,))]:
            self.refused(TooGreat, {"limit": 60}, star_tree, told)
        self.assertEqual(len(star_tree(star_of_chains(0, (60,) * 13, (60,), (60,)))[0]), 16)


class StarsOfTrees(Refusing):
    def test_there_and_back_listed_anew(self):
        chance = random.Random(202)
        for told in STARS:
            tree = star_tree(told)
            for one in [tree, least_form(tree)] + [listed(tree, some_listing(chance, len(tree[0]))) for _ in range(3)]:
                self.assertEqual(star_of(one), told)

    def test_whatever_the_middle(self):
        for middle in range(-60, 61):
            told = (middle, ((2, 1), (5, 3), (5, 3), (7, 4)))
            self.assertEqual(star_of(listed(star_tree(told), (4, 6, 0, 2, 1, 3, 5, 7))), told)

    def test_known_stars(self):
        self.assertEqual(star_of(SEVEN), (-1, ((2, 1), (3, 1), (7, 1))))
        self.assertEqual(star_of(E8), (-2, ((2, 1), (3, 2), (5, 4))))
        self.assertEqual(star_of(star((9, -60, -2, -3, -2, -60, -7))), (9, ((2, 1), (2, 1), (3, 1), (7, 1), (60, 1), (60, 1))))

    def test_no_stars(self):
        two = ((-2,) * 6, ((0, 1), (0, 2), (0, 3), (3, 4), (3, 5)))
        for tree in [EMPTY, ((-3,), ()), row_tree((-2,) * 3), row_tree((-2,) * 16), two, star((-2,) * 8),
                     star((-5,) + (-2,) * 7), star((-60,) * 16), star((-2, -2, -2, -1)), star((-2, -2, 0, -2)),
                     star((-2, -2, 2, 2)), star((-2, 60, -2, -3)),
                     ((-2, -2, -2, -3, -1), ((0, 1), (0, 2), (0, 3), (3, 4))),
                     ((-2, -2, -2, -1, -3), ((0, 1), (0, 2), (0, 3), (3, 4)))] + SMALL:
            self.refused(NotStar, {}, star_of, tree)

    def test_all_trees(self):
        stars = 0
        for tree in FEW + GREAT:
            beside = [sum(place in tie for tie in tree[1]) for place in range(len(tree[0]))]
            middles = [place for place, many in enumerate(beside) if many > 2]
            if (len(middles) == 1 and beside[middles[0]] <= 6
                    and all(weight <= -2 for place, weight in enumerate(tree[0]) if place != middles[0])):
                self.assertEqual(least_form(star_tree(star_of(tree))), least_form(tree))
                stars += 1
            else:
                self.assertRaises(NotStar, star_of, tree)
        self.assertGreater(stars, 2)


class Sums(unittest.TestCase):
    def test_star_sum(self):
        for told in STARS + LOW + LONG:
            found = star_sum(told)
            self.assertTrue(in_lowest_terms(found))
            self.assertEqual(fraction(found), plain_sum(told))
        self.assertEqual(star_sum((-2, ((2, 1),) * 4)), (0, 1))
        self.assertEqual(star_sum((-1, ((2, 1), (3, 1), (7, 1)))), (-1, 42))

    def test_below_zero_and_determinants(self):
        kinds = set()
        for told in STARS + LOW:
            tree = star_tree(told)
            a, b = star_sum(told)
            self.assertIs(is_below(tree), a < 0)
            self.assertEqual(determinant(tree), -Fraction(a, b) * math.prod(arm[0] for arm in told[1]))
            self.assertEqual(determinant(tree), plain_determinant(exchanged(plain_table(tree))))
            kinds.add((a > 0) - (a < 0))
        self.assertEqual(kinds, {-1, 0, 1})


class Rows(Refusing):
    def test_star_row(self):
        for told in STARS + LOW + LONG:
            if plain_sum(told) >= 0:
                continue
            row = star_row(told, 60)
            self.assertEqual(row, plain_row(told, 60))
            for count in range(1, 12):
                self.assertEqual(star_row(told, count), row[:count])
        for told in LONG + STARS[:4]:
            if plain_sum(told) < 0:
                whole = star_row(told, 500)
                self.assertEqual(whole, plain_row(told, 500))
                self.assertEqual([star_row(told, count) for count in (1, 2, 250, 499)],
                                 [whole[:count] for count in (1, 2, 250, 499)])
        self.assertEqual(sum(plain_sum(told) < 0 for told in LONG), 5)

    def test_near_rows(self):
        compared = 0
        for told in STARS + LOW:
            if plain_sum(told) < 0:
                tree = star_tree(told)
                self.assertIn(0, near_places(tree))
                self.assertEqual(near_row(tree, 0, 20), star_row(told, 20))
                compared += 1
        self.assertGreater(compared, 100)

    def test_known_rows(self):
        self.assertEqual(star_row((-1, ((2, 1), (3, 1), (7, 1))), 14), (0, 1, 0, 0, 0, 0, 0, 1, 1, 1, 1, 1, 1, 2))
        self.assertEqual(star_row((-60, ((2, 1),) * 3), 4), (0, 1, 59, 177))

    def test_not_below(self):
        for told in [(-2, ((2, 1),) * 4), (-1, ((2, 1), (3, 1), (6, 1))), (0, ((BIG, 1),) * 3), (60, ((2, 1),) * 3),
                     (-3, ((BIG, BIG - 1),) * 4), (-5, ((BIG, BIG - 1),) * 6)]:
            for count in (1, 500):
                self.refused(NotBelow, {}, star_row, told, count)
        self.assertEqual(star_row((-3, ((BIG, BIG - 1),) * 3), 4), (0, 1, 2, 3))


GREAT_NUMBERS = [(2 ** 61 - 1, 2 ** 89 - 1, 2 ** 107 - 1), (2, 3, 5, 7, 11, 13), (10 ** 60, 10 ** 60 + 1, 10 ** 120 + 7),
                 (2 ** 200, 3 ** 150, 5 ** 100, 7 ** 80, 11 ** 70, 13 ** 60), (4, 9, 25, 49), (2, 3, 10 ** 50 + 1, 5)]
NUMBERS = ([told for told in itertools.combinations(range(2, 16), 3)]
           + [told for told in itertools.combinations(range(2, 12), 4)] + GREAT_NUMBERS)
APART = [told for told in NUMBERS if all(math.gcd(a, b) == 1 for a, b in itertools.combinations(told, 2))]
NOT_APART = [(), (2,), (2, 3), (2, 3, 5, 7, 11, 13, 17), (2, 3, 4), (2, 3, 3), (6, 10, 15), (2, 3, 5, 7, 49), (1, 2, 3),
             (0, 2, 3), (-2, 3, 5), (2, 3, -5), (2, 3, 1), (True, 2, 3), (2, 3, True), (2, False, 3), [2, 3, 5], "235",
             None, ((2, 3, 5),), (2, 3, (5,)), (2, 3, "5"), (2, 3, None), (2, 3, 5.0), {2, 3, 5}, {2: 1, 3: 1, 5: 1}, 30,
             (2, 3, BIG), (BIG, 2 * BIG, 3), b"\x02\x03\x05", ((2, 1), (3, 1), (5, 1)), (2, 3, [5]), True, (1, 1, 1)]


class Spheres(Refusing):
    def test_sphere_star(self):
        self.assertGreater(len(APART), 100)
        for numbers in APART:
            middle, arms = sphere_star(numbers)
            self.assertEqual(sorted(a for a, _ in arms), sorted(numbers))
            self.assertEqual(list(arms), sorted(arms))
            self.assertTrue(all(1 <= b < a and math.gcd(a, b) == 1 for a, b in arms))
            self.assertEqual(plain_sum((middle, arms)), Fraction(-1, math.prod(numbers)))
            self.assertEqual(fraction(star_sum((middle, arms))), Fraction(-1, math.prod(numbers)))

    def test_every_sequence(self):
        for numbers in APART[::9] + GREAT_NUMBERS[:4]:
            told = sphere_star(numbers)
            for one in list(itertools.permutations(numbers))[:120]:
                self.assertEqual(sphere_star(one), told)

    def test_determinants(self):
        trees = 0
        for numbers in APART:
            try:
                tree = star_tree(sphere_star(numbers))
            except (TooMany, TooGreat):
                continue
            self.assertEqual(determinant(tree), 1)
            self.assertTrue(is_below(tree))
            self.assertEqual(star_of(tree), sphere_star(numbers))
            trees += 1
        self.assertGreater(trees, 50)

    def test_known_stars(self):
        self.assertEqual(sphere_star((7, 2, 3)), (-1, ((2, 1), (3, 1), (7, 1))))
        self.assertEqual(sphere_star((2, 3, 5)), (-2, ((2, 1), (3, 2), (5, 4))))
        self.assertEqual(sphere_star((2, 3, 5, 7)), (-2, ((2, 1), (3, 2), (5, 2), (7, 3))))

    def test_not_apart(self):
        for value in NOT_APART:
            self.refused(NotApart, {}, sphere_star, value)


def plain_corner_sum(p, q, r):
    total = 0
    for i, j, k in itertools.product(range(1, p), range(1, q), range(1, r)):
        told = Fraction(i, p) + Fraction(j, q) + Fraction(k, r)
        total += 1 if 0 < told < 1 or 2 < told < 3 else -1 if 1 < told < 2 else 0
    return total


TRIPLES = [told for told in APART if len(told) == 3 and math.prod(told) < 900]


class Corners(Refusing):
    def test_against_counting(self):
        for numbers in TRIPLES:
            told = plain_corner_sum(*numbers)
            self.assertEqual(told % 8, 0)
            for one in itertools.permutations(numbers):
                self.assertEqual(corner_sum(*one), told)
        self.assertEqual(corner_sum(2, 3, 5), -8)
        self.assertEqual(corner_sum(2, 3, 7), -8)
        self.assertEqual(corner_sum(2, 3, 11), -16)

    def test_not_apart_ahead_of_too_many(self):
        for numbers in [(2, 3, 4), (1, 2, 3), (0, 2, 3), (2, 3, -5), (2, -3, -5), (BIG, BIG, BIG), (1, BIG, BIG + 1),
                        (BIG, BIG + 1, -1), (BIG, BIG + 1, 0), (2, BIG, BIG + 1), (True, 2, 3), (2, 3, True)]:
            self.refused(NotApart, {}, corner_sum, *numbers)

    def test_too_many(self):
        # 20000 itself is no product of three numbers apart.
        self.assertEqual(2 * 99 * 101, 19998)
        self.assertEqual({corner_sum(*one) for one in itertools.permutations((2, 99, 101))}, {corner_sum(2, 99, 101)})
        self.assertEqual(corner_sum(2, 99, 101), plain_corner_sum(2, 99, 101))
        for numbers in [(3, 59, 113), (2, 73, 137), (BIG, BIG + 1, BIG ** 2 + BIG - 1), (2, 3, BIG + 1)]:
            for one in itertools.permutations(numbers):
                self.refused(TooMany, {"limit": 20000}, corner_sum, *one)

    def test_against_the_tree(self):
        compared = rich = 0
        for numbers in TRIPLES:
            try:
                tree = star_tree(sphere_star(numbers))
            except (TooMany, TooGreat):
                continue
            if box_size(tree) > 20000:
                continue
            k = canonical_row(tree)
            rank = rank_left(near_root(tree, 0))
            if math.prod(numbers) < 200:
                self.assertEqual(rank_left(root_by_rows(tree, k)), rank)
            self.assertEqual(8 * fraction(lowest(tree, k)) - 8 * rank, corner_sum(*numbers))
            compared += 1
            rich += rank > 0
        self.assertGreater(compared, 15)
        self.assertGreater(rich, 5)

    def test_rows_read_the_same_backward(self):
        for numbers in APART:
            g = math.prod(numbers) * (len(numbers) - 2 - sum(Fraction(1, a) for a in numbers))
            self.assertEqual(g.denominator, 1)
            self.assertGreaterEqual(g, -1)
            if g > 3000:
                continue
            row = star_row(sphere_star(numbers), int(g) + 30)
            self.assertEqual(row[:int(g) + 2], row[:int(g) + 2][::-1])
            self.assertEqual(list(row[int(g) + 1:]), sorted(row[int(g) + 1:]))
            if len(numbers) == 3 and math.prod(numbers) <= 900:
                falls = sum(max(0, a - b) for a, b in zip(row, row[1:]))
                rest = math.prod(a - 1 for a in numbers)
                self.assertEqual(4 * falls, corner_sum(*numbers) + rest)


if __name__ == "__main__":
    unittest.main()
