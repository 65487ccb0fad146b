"""Steps from a cycle upward."""

from blowntrees.errors import TooMany
from blowntrees.tables import row_of
from blowntrees.trees import neighbour_lists


class Climb:
    """A cycle that is raised, its row, and the steps that were done."""

    def __init__(self, tree, cycle):
        self.weights = tree[0]
        self.lists = neighbour_lists(tree)
        self.cycle = list(cycle)
        self.row = list(row_of(tree, cycle))
        self.places = []
        self.met = []

    def least_step(self, barred):
        """Return the least place of a step that may be done, or -1.

        The barred place is left out.
        """
        for place, entry in enumerate(self.row):
            if entry > 0 and place != barred:
                return place
        return -1

    def raise_at(self, place):
        """Add 1 at a place, and return the entry of the row that was there."""
        entry = self.row[place]
        self.cycle[place] += 1
        self.row[place] += self.weights[place]
        for other in self.lists[place]:
            self.row[other] += 1
        return entry

    def step_at(self, place):
        """Do a step at a place."""
        self.places.append(place)
        self.met.append(self.raise_at(place))

    def step_on(self, barred, limit):
        """Do steps, at the least place each, as long as there is one.

        No more than the limit are done on one climb.
        """
        place = self.least_step(barred)
        while place >= 0:
            if len(self.places) == limit:
                raise TooMany(limit)
            self.step_at(place)
            place = self.least_step(barred)


def unit_cycle(tree, place):
    """Return the cycle with 1 at a place and 0 elsewhere."""
    return tuple([1 if other == place else 0 for other in range(len(tree[0]))])
