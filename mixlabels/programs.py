"""Linear programs in integers."""

from mixlabels.lattices import unit_rows
from mixlabels.pivots import pivoted
from mixlabels.questions import weighed
from mixlabels.ratios import made


class Program:
    """Amounts from 0 on of columns that together do not go beyond the limits, with the greatest sum of gains."""

    def __init__(self, columns, gains, limits):
        many = len(limits)
        # What is left of the limits has columns, too, which gain nothing; at first all is left.
        self.columns = columns + unit_rows(many)
        self.gains = gains + [0] * many
        self.base = [len(columns) + i for i in range(many)]
        # All rows stand for themselves divided by the scale; the last one tells what the limits are worth.
        self.rows = [row + [limit] for row, limit in zip(unit_rows(many), limits)] + [[0] * (many + 1)]
        self.scale = 1
        entering = self.entering()
        while entering is not None:
            self.exchange(entering)
            entering = self.entering()

    def entering(self):
        """The first column that is worth more than what it takes, or None."""
        for t in range(len(self.columns)):
            if self.price(t) < 0:
                return t
        return None

    def price(self, t):
        return weighed(self.rows[-1], self.columns[t]) - self.gains[t] * self.scale

    def exchange(self, t):
        column = [weighed(row, self.columns[t]) for row in self.rows[:-1]]
        at = self.leaving(column)
        self.rows = pivoted(self.rows, at, column + [self.price(t)], self.scale)
        self.scale = column[at]
        self.base[at] = t

    def leaving(self, column):
        """The row that is used up first; of several ones that of the first column, or one could go round for ever."""
        best = None
        for i, value in enumerate(column):
            if value > 0 and (best is None or self.is_ahead(column, i, best)):
                best = i
        return best

    def is_ahead(self, column, one, other):
        left = self.rows[one][-1] * column[other]
        right = self.rows[other][-1] * column[one]
        return left < right or left == right and self.base[one] < self.base[other]

    def amounts(self):
        """The pairs (column, amount) of all amounts above 0."""
        found = [(t, made(row[-1], self.scale)) for t, row in zip(self.base, self.rows)]
        return [(t, amount) for t, amount in found if amount[0] > 0]

    def worths(self):
        """What one more of each limit is worth."""
        return [made(value, self.scale) for value in self.rows[-1][:-1]]
