"""[2]: where a call breaks several conditions, the one that is named first is raised."""

import unittest

from blowntrees.blowing import blown_at, blown_down, blown_on, nought_out
from blowntrees.branches import gaps, meeting, value_row, values
from blowntrees.chains import chain_tree
from blowntrees.classes import all_classes, lowest, lowest_rows
from blowntrees.cycles import above, least_cycle, multiplicity, step_values
from blowntrees.errors import (NotApart, NotBelow, NotLoose, NotNear, NotNought, NotPoints, NotRational, NotSmooth,
                               NotSteps, Nought, TooGreat, TooMany)
from blowntrees.linkings import blown_row, linking_row
from blowntrees.loops import all_loops
from blowntrees.nears import near_places, near_root, near_row
from blowntrees.points import points_of, tree_of_points
from blowntrees.roots import root_by_rows
from blowntrees.sames import moves_between
from blowntrees.stars import corner_sum, star_tree
from blowntrees.stills import pulled_up, shares, still_cycles
from refusing import Refusing
from samples import EMPTY, row_tree, star, twigs
from test_nears import LESS_LONG, LONG

FULL = row_tree((-60,) * 16)
RISEN = star((-4,) + (-2,) * 15)
LEVEL = row_tree((1, 1))
BIG = 10 ** 30

# A call that breaks several conditions, the error that comes first, its attributes.
FIRST = [
    (blown_at, (FULL, 0), TooMany, {"limit": 16}),
    (blown_on, (FULL, (3, 4)), TooMany, {"limit": 16}),
    (blown_row, (FULL, ("at", 0), (0,) * 16), TooMany, {"limit": 16}),
    (blown_down, (star((-1, 60, 60, 60)), 0), NotLoose, {}),
    (blown_down, (row_tree((60, -2, 60)), 1), NotLoose, {}),
    (nought_out, (star((0, 60, 60, 60)), 0), NotNought, {}),
    (nought_out, (row_tree((60, 1, 60)), 1), NotNought, {}),
    (chain_tree, ((61,) * 17,), TooMany, {"limit": 16}),
    (all_loops, (LEVEL,), Nought, {}),
    (linking_row, (row_tree((20, 0, -20)),), Nought, {}),
    (moves_between, (LEVEL, row_tree((-2, -2))), NotBelow, {}),
    (moves_between, (row_tree((-2, -2)), LEVEL), NotBelow, {}),
    (all_classes, (row_tree((60, -60)),), NotBelow, {}),
    (lowest, (twigs((60,) * 16), (0,) * 16), NotBelow, {}),
    (lowest_rows, (RISEN, (0,) * 16), NotBelow, {}),
    (root_by_rows, (RISEN, (0,) * 16), NotBelow, {}),
    (above, (RISEN, (BIG,) * 16), NotBelow, {}),
    (least_cycle, (RISEN,), NotBelow, {}),
    (multiplicity, (RISEN,), NotBelow, {}),
    (multiplicity, (EMPTY,), NotRational, {}),
    (step_values, (LEVEL, (0, 0), (9,) * 5001), NotBelow, {}),
    (step_values, (row_tree((-2, -2)), (0, 0), (9,) * 5001), TooMany, {"limit": 5000}),
    (step_values, (row_tree((-2, -2)), (0, 0), (9,) * 5000), NotSteps, {"place": 0}),
    (near_places, (RISEN,), NotBelow, {}),
    (near_row, (LESS_LONG, 2, 500), NotNear, {}),
    (near_row, (LONG, 6, 500), TooMany, {"limit": 20000}),
    (near_root, (LESS_LONG, 2), NotNear, {}),
    (near_root, (RISEN, 0), NotBelow, {}),
    (star_tree, ((0, ((61, 1), (61, 1), (18, 17))[::-1]),), TooMany, {"limit": 16}),
    (star_tree, ((0, ((17, 16), (61, 1), (61, 1))),), TooMany, {"limit": 16}),
    (corner_sum, (BIG, BIG, BIG), NotApart, {}),
    (corner_sum, (1, BIG, BIG + 1), NotApart, {}),
    (values, (RISEN, 0, 2000), NotSmooth, {}),
    (gaps, (EMPTY, 0), NotSmooth, {}),
    (value_row, (LEVEL, 0, 1), NotSmooth, {}),
    (meeting, (FULL, 0, 15), NotSmooth, {}),
    (still_cycles, (RISEN, 60), NotBelow, {}),
    (pulled_up, (RISEN, ("at", 0), (0,) * 16), NotBelow, {}),
    (pulled_up, (FULL, ("on", 0, 1), (0,) * 16), TooMany, {"limit": 16}),
    (shares, (RISEN, (0,) * 16), NotSmooth, {}),
    (points_of, (RISEN, 0), NotSmooth, {}),
    (tree_of_points, ((2, 2, True),), NotPoints, {"place": -1}),
    (tree_of_points, ((4, 2, 1, 1, 1, 2),), NotPoints, {"place": 4}),
]


class First(Refusing):
    def test_the_first_one(self):
        for act, arguments, kind, attributes in FIRST:
            with self.subTest(act=act.__name__):
                self.refused(kind, attributes, act, *arguments)


if __name__ == "__main__":
    unittest.main()
