"""Parts of things that come one after another and hang together."""


class Parts:
    """Things that have come, the parts that they fall into, and their roots.

    Things come height by height. At each height they are brought, tied to
    others and then settled.
    """

    def __init__(self):
        self.chiefs = []
        self.roots = []
        self.fresh = []
        self.many = 0

    def bring(self):
        """Bring a thing that hangs on nothing yet, and return its number."""
        number = len(self.chiefs)
        self.chiefs.append(number)
        self.roots.append([])
        self.fresh.append(number)
        self.many += 1
        return number

    def chief_of(self, number):
        """Return the thing that stands for the part of a thing."""
        while self.chiefs[number] != number:
            # Ways to the chief are made shorter, or they might grow long.
            self.chiefs[number] = self.chiefs[self.chiefs[number]]
            number = self.chiefs[number]
        return number

    def tie(self, number, other):
        """Make one part of the parts of two things."""
        chief = self.chief_of(number)
        lost = self.chief_of(other)
        if chief == lost:
            return
        if len(self.roots[chief]) < len(self.roots[lost]):
            chief, lost = lost, chief
        self.chiefs[lost] = chief
        self.roots[chief].extend(self.roots[lost])
        self.roots[lost] = []
        self.many -= 1

    def settle(self, height):
        """Give a root to each part that things have come to at a height."""
        for number in self.fresh:
            roots = self.roots[self.chief_of(number)]
            if len(roots) != 1:
                self.roots[self.chief_of(number)] = [(height, tuple(sorted(roots)))]
        self.fresh = []

    def root(self):
        """Return the root of all things, when they are one part."""
        return self.roots[self.chief_of(0)][0]
