"""The field that there is now, what was found in it, and what's possible."""

from ropedparty.hidden import agreeing
from ropedparty.hidden import ever_holes
from ropedparty.hidden import hidden_fields
from ropedparty.hidden import hole_counts

FIRM = 0
HOLE = 1
UNKNOWN = 2


class Glacier:
    """One field with its finds; it begins as one cell without crevasses."""

    def __init__(self):
        self.lay(1, 1, 1, 1, 0)

    def lay(self, width, height, least, most, many):
        """Begin with another field, in which nothing was found."""
        self.width = width
        self.height = height
        self.least = least
        self.most = most
        self.many = many
        self.hidden = hidden_fields(width, height, least, most, many)
        self.keep(self.hidden)
        # By cell; a dict keeps the order in which they were found.
        self.finds = {}

    def keep(self, numbers):
        self.possible = numbers
        # Counting takes long and may be asked for again before anything changes.
        self.counts = None

    def cell_count(self):
        return self.width * self.height

    def has_cell(self, cell):
        return 0 <= cell < self.cell_count()

    def cells_to_probe(self):
        """The cells that weren't found yet, the least first."""
        return [cell for cell in range(self.cell_count()) if cell not in self.finds]

    def add_find(self, cell, value):
        self.finds[cell] = value
        self.keep(agreeing(self.possible, cell, value))

    def drop_find(self, cell):
        self.finds.pop(cell)
        left = self.hidden
        for other, value in self.finds.items():
            left = agreeing(left, other, value)
        self.keep(left)

    def counted_holes(self):
        """For each cell, in how many of those possible it's a hole."""
        if self.counts is None:
            self.counts = hole_counts(self.possible, self.cell_count())
        return self.counts

    def knowledge(self):
        """For each cell FIRM, HOLE or UNKNOWN."""
        ever = ever_holes(self.possible)
        always = ever
        for number in self.possible:
            always = always & number
        known = []
        for cell in range(self.cell_count()):
            if (ever >> cell) & 1 == 0:
                known.append(FIRM)
            elif (always >> cell) & 1 == 1:
                known.append(HOLE)
            else:
                known.append(UNKNOWN)
        return known

    def surely_firm(self):
        """The surely firm cells, as a dict of True."""
        firm = {}
        for cell, known in enumerate(self.knowledge()):
            if known == FIRM:
                firm[cell] = True
        return firm
