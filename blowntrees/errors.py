"""The errors of the package.

Those with attributes take these in their `__init__`; Python itself keeps the
same arguments for the message.
"""


class TreeError(ValueError):
    """Any error of the package."""


class NotTree(TreeError):
    """A value is no tree: which rule it breaks first, and where."""

    def __init__(self, rule, place):
        self.rule = rule
        self.place = place


class NotText(TreeError):
    """A string is no text of a tree: how far it could be one."""

    def __init__(self, place):
        self.place = place


class TooMany(TreeError):
    """There are more than the limit."""

    def __init__(self, limit):
        self.limit = limit


class TooGreat(TreeError):
    """A weight is above the limit, or below minus the limit."""

    def __init__(self, limit):
        self.limit = limit


class Nought(TreeError):
    """The determinant is 0."""


class NotLoose(TreeError):
    """A place cannot be blown down."""


class NotBelow(TreeError):
    """A tree or a star is not below zero."""


class NotMoves(TreeError):
    """A value is no tuple of moves: which one is the first wrong one."""

    def __init__(self, place):
        self.place = place


class NotSame(TreeError):
    """No moves lead from the one tree to the other one."""


class NotNought(TreeError):
    """A place is none of the weight 0 with two neighbours."""


class NotSteps(TreeError):
    """Steps cannot be done as told: which one is the first wrong one."""

    def __init__(self, place):
        self.place = place


class NotRational(TreeError):
    """A tree is empty or not rational."""


class NotNear(TreeError):
    """A place is not near."""


class NotStar(TreeError):
    """A tree is that of no star."""


class NotApart(TreeError):
    """Numbers have a common divisor, or are no such numbers at all."""


class NotSmooth(TreeError):
    """A tree is not smooth."""


class NotPoints(TreeError):
    """A value is no tuple of points of a branch: which one is wrong first."""

    def __init__(self, place):
        self.place = place
