"""[1] and [3]: what is a tree, and which rule a value breaks."""

import itertools
import unittest

from blowntrees.errors import NotTree, TreeError
from blowntrees.trees import check_tree, tree_breach
from samples import TREES, all_ties, is_tree, row_tree, star

ROW16 = tuple((k, k + 1) for k in range(15))


class Odd:
    """A value of no kind that a tree has."""


# A value, and what tree_breach tells of it.
WRONG = [
    (None, ("form", -1)), (True, ("form", -1)), (0, ("form", -1)), ("", ("form", -1)),
    ("ab", ("form", -1)), (b"ab", ("form", -1)), (1.5, ("form", -1)), (Odd(), ("form", -1)),
    ({}, ("form", -1)), ({(): ()}, ("form", -1)), ([(), ()], ("form", -1)), ((), ("form", -1)),
    (((),), ("form", -1)), (((), (), ()), ("form", -1)), (([], ()), ("form", -1)),
    (((), []), ("form", -1)), ((None, ()), ("form", -1)), (((), None), ("form", -1)),
    (((-1,), "ab"), ("form", -1)), (("ab", ()), ("form", -1)), ((3, 4), ("form", -1)),
    (((-1, -2), [(0, 1)]), ("form", -1)), (([-1, -2], ((0, 1),)), ("form", -1)),
    (((0,) * 17, ()), ("form", -1)), ((("x",) * 17, (1, 2)), ("form", -1)),
    (((0,) * 17, ROW16 + ((15, 16),)), ("form", -1)), (((0,) * 100, ()), ("form", -1)),
    (((0,) * 17, []), ("form", -1)),

    (((-61,), ()), ("weight", 0)), (((61,), ()), ("weight", 0)), (((True,), ()), ("weight", 0)),
    (((False,), ()), ("weight", 0)), ((("1",), ()), ("weight", 0)), (((None,), ()), ("weight", 0)),
    (((1.0,), ()), ("weight", 0)), ((((1,),), ()), ("weight", 0)), ((([],), ()), ("weight", 0)),
    (((Odd(),), ()), ("weight", 0)), (((10 ** 30,), ()), ("weight", 0)),
    (((-10 ** 30,), ()), ("weight", 0)), (((b"",), ()), ("weight", 0)),
    (((0, 60, -60, 61, "x"), ()), ("weight", 3)), (((0, True, 99), (7,)), ("weight", 1)),
    (((0,) * 15 + (-61,), ROW16), ("weight", 15)), (((0, 0, 61), ((0, 1), (0, 1))), ("weight", 2)),
    (((0, 0, 61), (5,)), ("weight", 2)), (((61, 0), ()), ("weight", 0)),

    (((), (0,)), ("tie", 0)), (((), ((0, 1),)), ("tie", 0)), (((), ((0, 0),)), ("tie", 0)),
    (((0,), ((0, 1),)), ("tie", 0)), (((0,), ((0, 0),)), ("tie", 0)), (((0,), (None,)), ("tie", 0)),
    (((0, 0), ([0, 1],)), ("tie", 0)), (((0, 0), ("01",)), ("tie", 0)), (((0, 0), (0, 1)), ("tie", 0)),
    (((0, 0), ((0,),)), ("tie", 0)), (((0, 0), ((),)), ("tie", 0)), (((0, 0), ((0, 1, 1),)), ("tie", 0)),
    (((0, 0), ((1, 0),)), ("tie", 0)), (((0, 0), ((1, 1),)), ("tie", 0)), (((0, 0), ((0, 2),)), ("tie", 0)),
    (((0, 0), ((-1, 1),)), ("tie", 0)), (((0, 0), ((-1, 0),)), ("tie", 0)), (((0, 0), ((0, -1),)), ("tie", 0)),
    (((0, 0), ((0, True),)), ("tie", 0)), (((0, 0), ((False, 1),)), ("tie", 0)),
    (((0, 0), ((0, 1.0),)), ("tie", 0)), (((0, 0), ((0, "1"),)), ("tie", 0)),
    (((0, 0), (("0", "1"),)), ("tie", 0)), (((0, 0), ((0, None),)), ("tie", 0)),
    (((0, 0), (((0, 1),),)), ("tie", 0)), (((0, 0), (Odd(),)), ("tie", 0)),
    (((0, 0), ((0, 10 ** 30),)), ("tie", 0)), (((0, 0), ((0, (1,)),)), ("tie", 0)),
    (((0, 0), ((0, 1), (0, 1))), ("tie", 1)), (((0, 0, 0), ((0, 2), (0, 1))), ("tie", 1)),
    (((0, 0, 0), ((1, 2), (0, 1))), ("tie", 1)), (((0, 0, 0), ((1, 2), (0, 2))), ("tie", 1)),
    (((0, 0, 0), ((0, 1), (2, 1))), ("tie", 1)), (((0, 0, 0), ((0, 1), (1, 3))), ("tie", 1)),
    (((0, 0, 0), ((0, 1), (1, 2), (1, 2))), ("tie", 2)), (((0, 0, 0), ((0, 1), 5, (0, 1))), ("tie", 1)),
    (((0, 0, 0), ((0, 1), (0, 2), (1, 2), "x")), ("tie", 3)), (((0,) * 16, ROW16 + ((15, 16),)), ("tie", 15)),
    (((0,) * 4, ((0, 1), (2, 3), (1, 2))), ("tie", 2)), (((0, 0, 0), ((0, 1), (0, 1), (0, 9))), ("tie", 1)),
    (((0,) * 4, ((0, 1), (0, 2), (1, 2), (1, 1))), ("tie", 3)),

    (((0, 0, 0), ((0, 1), (0, 2), (1, 2))), ("ring", 2)), (((0,) * 4, ((0, 1), (0, 2), (1, 2))), ("ring", 2)),
    (((0,) * 4, ((0, 1), (0, 2), (1, 2), (2, 3))), ("ring", 2)),
    (((0,) * 4, ((0, 1), (0, 2), (1, 3), (2, 3))), ("ring", 3)),
    (((0,) * 5, ((0, 1), (2, 3), (2, 4), (3, 4))), ("ring", 3)),
    (((0,) * 5, ((1, 2), (1, 3), (2, 3))), ("ring", 2)), (((0,) * 6, ((0, 5), (1, 5), (2, 4), (2, 5), (4, 5))), ("ring", 4)),
    (((0,) * 16, ((0, 1), (0, 15)) + ROW16[1:]), ("ring", 15)), (((0,) * 16, ((0, 1), (0, 2)) + ROW16[1:14]), ("ring", 2)),
    (((0,) * 4, tuple(itertools.combinations(range(4), 2))), ("ring", 3)),

    (((0, 0), ()), ("apart", 1)), (((0,) * 16, ()), ("apart", 1)), (((0, 0, 0), ((0, 1),)), ("apart", 2)),
    (((0, 0, 0), ((0, 2),)), ("apart", 1)), (((0, 0, 0), ((1, 2),)), ("apart", 1)),
    (((0,) * 4, ((0, 3), (1, 2))), ("apart", 1)), (((0,) * 4, ((0, 1), (2, 3))), ("apart", 2)),
    (((0,) * 5, ((0, 4), (1, 4), (2, 3))), ("apart", 2)), (((0,) * 16, ROW16[:14]), ("apart", 15)),
    (((0,) * 16, ROW16[:7] + ROW16[8:]), ("apart", 8)), (((0,) * 16, ROW16[1:]), ("apart", 1)),
]


def breach_of_ties(many, ties):
    """Work out the breach of a tuple of pairs by plain search."""
    for index, (i, j) in enumerate(ties):
        if not 0 <= i < j < many or (index and ties[index - 1] >= (i, j)):
            return ("tie", index)
    for index, (i, j) in enumerate(ties):
        if j in reached_from(i, ties[:index]):
            return ("ring", index)
    missing = [place for place in range(many) if place not in reached_from(0, ties)]
    return ("apart", missing[0]) if missing else None


def reached_from(place, ties):
    reached = {place}
    for _ in range(len(ties) + 1):
        for i, j in ties:
            if i in reached or j in reached:
                reached |= {i, j}
    return reached


class Trees(unittest.TestCase):
    def test_trees_break_no_rule(self):
        for tree in TREES:
            self.assertTrue(is_tree(tree))
            self.assertIsNone(tree_breach(tree))
            self.assertIs(check_tree(tree), tree)

    def test_numbers_of_places(self):
        for many in (0, 1, 2, 7, 15, 16):
            self.assertIsNone(tree_breach(row_tree((-60,) * many)))
            self.assertIsNone(tree_breach(star((60,) * many)))

    def test_all_ties_are_trees(self):
        for many, count in ((1, 1), (2, 1), (3, 3), (4, 16), (5, 125)):
            told = {ties for ties in all_ties(many) if tree_breach(((0,) * many, ties)) is None}
            self.assertEqual(len(told), count)

    def test_wrong_values(self):
        for value, breach in WRONG:
            with self.subTest(value=value):
                self.assertEqual(tree_breach(value), breach)
                self.assertIs(type(tree_breach(value)), tuple)
                self.assertIs(type(tree_breach(value)[1]), int)

    def test_check_tree_raises_with_rule_and_place(self):
        for value, breach in WRONG:
            with self.subTest(value=value), self.assertRaises(NotTree) as caught:
                check_tree(value)
            self.assertEqual((caught.exception.rule, caught.exception.place), breach)
            self.assertIsInstance(caught.exception, TreeError)

    def test_all_rows_of_pairs(self):
        pairs = [(i, j) for i in range(-1, 4) for j in range(-1, 4)]
        for many in (1, 2, 3):
            for count in range(4):
                for ties in itertools.product(pairs, repeat=count):
                    breach = tree_breach(((0,) * many, ties))
                    if breach != breach_of_ties(many, ties):
                        self.fail(f"{many} {ties} {breach}")

    def test_all_ascending_rows_of_ties(self):
        pairs = list(itertools.combinations(range(5), 2))
        trees = 0
        for count in range(len(pairs) + 1):
            for ties in itertools.combinations(pairs, count):
                breach = tree_breach(((-1,) * 5, ties))
                self.assertEqual(breach, breach_of_ties(5, ties))
                trees += breach is None
        self.assertEqual(trees, 125)


if __name__ == "__main__":
    unittest.main()
