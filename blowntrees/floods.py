"""The marked rows of a class, brought level by level."""

from blowntrees.boxes import MOST_ROWS, box_rows
from blowntrees.errors import TooMany
from blowntrees.parts import Parts
from blowntrees.tables import determinant
from blowntrees.ways import Ways, well_rows


class Flood:
    """The rows of a class up to a height above its least level.

    `wells` tells, by their heights, a row of each well, and `waiting`, by the
    heights to which they lead, the ways that lead up from the rows that have
    come.
    """

    def __init__(self, tree, k):
        self.ways = Ways(tree)
        self.numbers = {}
        self.parts = Parts()
        self.waiting = {}
        self.wells = {}
        heights = _box_heights(tree, k)
        for row in well_rows(self.ways, heights):
            self.wells.setdefault(heights[row], []).append(row)

    def risen_root(self):
        """Let the flood rise until all wells are one part, and return its root.

        From there on all rows are one part, as each part contains a well.
        """
        height = 0
        while self.wells or self.parts.many > 1:
            self.rise_to(height)
            height += 1
        return self.parts.root()

    def rise_to(self, height):
        """Bring all rows of a height."""
        left = [self.ways.lead(row, place, sign) for row, place, sign in self.waiting.pop(height, [])]
        left.extend(self.wells.pop(height, []))
        while left:
            row = left.pop()
            if row not in self.numbers:
                left.extend(self.level_rows(row, height))
        self.parts.settle(height)

    def level_rows(self, row, height):
        """Bring a row, and return the rows of its height beside it that must come.

        All lower rows have come already.
        """
        if len(self.numbers) == MOST_ROWS:
            raise TooMany(MOST_ROWS)
        number = self.parts.bring()
        self.numbers[row] = number
        level = []
        for place, sign in self.ways.ends:
            rise = self.ways.rise(row, place, sign)
            if rise > 0:
                self.waiting.setdefault(height + rise, []).append((row, place, sign))
                continue
            other = self.ways.lead(row, place, sign)
            if other in self.numbers:
                self.parts.tie(number, self.numbers[other])
            else:
                level.append(other)
        return level


def _box_heights(tree, k):
    """Return the levels of the rows of a class in the box, less the least one."""
    found = box_rows(tree, k)
    least = min([weighed for weighed, _ in found])
    unit = 8 * determinant(tree)
    return {row: (weighed - least) // unit for weighed, row in found}
