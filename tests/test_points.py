"""[47]: points of places of smooth trees, and trees of points."""

import itertools
import random
import unittest

from blowntrees.branches import branch_row, is_smooth, turn_point, values
from blowntrees.errors import NotPoints, NotSmooth
from blowntrees.points import points_of, tree_of_points
from blowntrees.stills import point_row
from blowntrees.trees import tree_breach
from refusing import Refusing
from samples import E8, row_tree
from test_branches import FIBONACCI, JUST, LITTLE, OVER, POINT, ROUGH, SMOOTH

BIG = 10 ** 30


def plain_breach(points):
    """Return the index that NotPoints must have by the document, or None."""
    if type(points) is not tuple or not 1 <= len(points) <= 16:
        return -1
    if any(type(entry) is not int or entry < 1 for entry in points):
        return -1
    reaches = []
    for i, entry in enumerate(points[:-1]):
        fitting = [r for r in range(1, len(points) - i) if sum(points[i + 1:i + 1 + r]) == entry]
        if not fitting:
            return i
        reaches += fitting
    if points[-1] != 1:
        return len(points) - 1
    for j in range(len(points)):
        if len([i for i in range(j) if j - i <= reaches[i] and i != j - 1]) >= 2:
            return j
    return None


def made_backward(chance, many):
    """Return points by chance, each one the sum of the next ones behind it."""
    points = [1]
    while len(points) < many:
        points.insert(0, sum(points[:chance.randint(1, min(4, len(points)))]))
    return tuple(points)


class PointsOf(Refusing):
    def test_of_every_place(self):
        for tree in SMOOTH + JUST + OVER:
            for place in range(len(tree[0])):
                told = points_of(tree, place)
                self.assertIs(type(told), tuple)
                row = branch_row(tree, place)
                self.assertEqual(list(told), sorted([m for m in point_row(tree, row) if m > 0], reverse=True))
                self.assertEqual(sum(m * m for m in told), row[place])
                self.assertEqual(sum(m * m for m in told) - sum(told), turn_point(tree, place))
                self.assertEqual(min(told), 1)

    def test_known_points(self):
        self.assertEqual(points_of(POINT, 0), (1,))
        self.assertEqual(points_of(row_tree((-2, -1, -3)), 1), (2, 1, 1))
        self.assertEqual([points_of(row_tree((-2, -1)), place) for place in (0, 1)], [(1,), (1, 1)])
        self.assertEqual(points_of(FIBONACCI, 15), (987, 610, 377, 233, 144, 89, 55, 34, 21, 13, 8, 5, 3, 2, 1, 1))

    def test_not_smooth(self):
        for tree in ROUGH:
            self.refused(NotSmooth, {}, points_of, tree, 0)
            self.refused(NotSmooth, {}, points_of, tree, 17)


class TreesOfPoints(Refusing):
    def test_there_and_back(self):
        for tree in SMOOTH + JUST + OVER:
            for place in range(len(tree[0])):
                points = points_of(tree, place)
                new, last = tree_of_points(points)
                self.assertIsNone(tree_breach(new))
                self.assertIs(is_smooth(new), True)
                self.assertEqual((len(new[0]), last), (len(points), len(points) - 1))
                self.assertEqual(points_of(new, last), points)
                self.assertEqual(branch_row(new, last)[last], branch_row(tree, place)[place])
                self.assertEqual(values(new, last, 200), values(tree, place, 200))

    def test_points_by_chance(self):
        chance = random.Random(270)
        met = set()
        for _ in range(3000):
            points = made_backward(chance, chance.randint(1, 16))
            breach = plain_breach(points)
            met.add(breach)
            if breach is None:
                new, last = tree_of_points(points)
                self.assertEqual(points_of(new, last), points)
                self.assertEqual(new[0][last], -1)
            else:
                self.refused(NotPoints, {"place": breach}, tree_of_points, points)
        self.assertGreater(len(met), 10)

    def test_known_trees(self):
        self.assertEqual(tree_of_points((1,)), (POINT, 0))
        self.assertEqual(tree_of_points((1, 1)), (row_tree((-2, -1)), 1))
        self.assertEqual(tree_of_points((1,) * 16), (row_tree((-2,) * 15 + (-1,)), 15))
        self.assertEqual(tree_of_points((2, 1, 1)), (((-3, -2, -1), ((0, 2), (1, 2))), 2))
        self.assertEqual(tree_of_points((3, 1, 1, 1)), (((-4, -2, -2, -1), ((0, 3), (1, 2), (2, 3))), 3))
        self.assertEqual(tree_of_points((3, 2, 1, 1)), (((-3, -3, -2, -1), ((0, 2), (1, 3), (2, 3))), 3))
        self.assertEqual(tree_of_points((15,) + (1,) * 15)[0][0], (-16,) + (-2,) * 14 + (-1,))
        self.assertEqual(tree_of_points((987, 610, 377, 233, 144, 89, 55, 34, 21, 13, 8, 5, 3, 2, 1, 1)), (FIBONACCI, 15))

    def test_no_such_tuples(self):
        for value in [[], [1], [2, 1, 1], "", "1", "211", None, (), (1,) * 17, (16,) + (1,) * 16, (True,), (2, 1, True),
                      (True, 1), (2, True, 1), (0,), (1, 0), (0, 1), (-1,), (2, 1, 1, -1), (1, -BIG), 1, 211, True, ((1,),),
                      (1, (1,)), ("1",), (1, "1"), (1, None), (1.0,), (2, 1, 1.0), {1: 1}, {1}, b"\x01", [(1,)], (1,) * 40,
                      (5, 5, [1]), (BIG, 0)]:
            self.refused(NotPoints, {"place": -1}, tree_of_points, value)

    def test_where_no_sum_fits(self):
        for points, place in [((2,), 0), ((BIG,), 0), ((2, 1), 0), ((1, 2), 0), ((2, 2), 1), ((1, 1, 2), 1), ((3, 2, 1), 1),
                              ((2, 2, 2), 2), ((BIG, BIG), 1), ((3, 2, 2, 1), 0), ((2, 1, 2, 1, 1), 0), ((4, 2, 1, 1, 2), 3),
                              ((4, 2, 2, 1, 1, 2), 4), ((1, 1, 1, 3), 2), ((5, 3, 1, 1), 1), ((BIG, 1, 1), 0),
                              ((3, 1, 1), 0), ((1,) * 15 + (2,), 14), ((2, 2, 1), 1), ((2,) * 16, 15)]:
            self.assertEqual(plain_breach(points), place)
            self.refused(NotPoints, {"place": place}, tree_of_points, points)

    def test_near_two_others(self):
        for points, place in [((4, 2, 1, 1), 3), ((5, 2, 1, 1, 1), 3), ((8, 4, 2, 1, 1), 3), ((4, 4, 4, 2, 1, 1), 5)]:
            self.assertEqual(plain_breach(points), place)
            self.refused(NotPoints, {"place": place}, tree_of_points, points)
        # The entry 4 is no sum, which comes ahead of the entry 3 near two others.
        self.refused(NotPoints, {"place": 4}, tree_of_points, (4, 2, 1, 1, 1, 2))
        for points in [(3, 2, 1, 1), (4, 3, 1, 1, 1), (5, 3, 2, 1, 1), (6, 4, 2, 2, 1, 1)]:
            self.assertIsNone(plain_breach(points))
            self.assertEqual(points_of(*tree_of_points(points)), points)

    def test_all_small_tuples(self):
        good = 0
        for many in range(1, 6):
            for points in itertools.product(range(0, 6), repeat=many):
                breach = plain_breach(points)
                if breach is None:
                    new, last = tree_of_points(points)
                    self.assertEqual(points_of(new, last), points)
                    good += 1
                else:
                    with self.assertRaises(NotPoints) as caught:
                        tree_of_points(points)
                    self.assertEqual(caught.exception.place, breach)
        self.assertGreater(good, 20)

    def test_same_points(self):
        places = [(tree, place) for tree in LITTLE for place in range(len(tree[0]))]
        told = {}
        for tree, place in places:
            known = (values(tree, place, 400), branch_row(tree, place)[place])
            told.setdefault(points_of(tree, place), set()).add(known)
        self.assertTrue(all(len(known) == 1 for known in told.values()))
        self.assertEqual(len(set.union(*told.values())), len(told))
        self.assertGreater(len(told), 15)

    def test_places_of_other_trees(self):
        self.refused(NotSmooth, {}, points_of, E8, 7)


if __name__ == "__main__":
    unittest.main()
