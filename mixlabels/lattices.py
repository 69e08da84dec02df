"""Integer equations, solved in integers divided by powers of k."""

from mixlabels.arithmetic import without_divisors
from mixlabels.ratios import less, made, times


class Echelon:
    """Integer equations whose columns are brought, by exchanges and differences of columns, into steps."""

    def __init__(self, rows, many):
        self.rows = [list(row) for row in rows]
        # How the new unknowns tell the old ones, and the other way round.
        self.columns = unit_rows(many)
        self.back = unit_rows(many)
        # For each equation the new unknown that it is the first one to tell, or None.
        self.steps = []
        self.done = 0
        for at in range(len(self.rows)):
            self.steps.append(self.step(at))

    def step(self, at):
        while True:
            left = [(abs(value), c) for c, value in enumerate(self.rows[at]) if c >= self.done and value != 0]
            if len(left) == 0:
                return None
            least = min(left)[1]
            if len(left) == 1:
                self.exchange(least, self.done)
                self.done += 1
                return self.done - 1
            for _, c in left:
                if c != least:
                    self.take(c, least, self.rows[at][c] // self.rows[at][least])

    def exchange(self, one, other):
        for row in self.rows + self.columns:
            row[one], row[other] = row[other], row[one]
        self.back[one], self.back[other] = self.back[other], self.back[one]

    def take(self, c, least, many):
        """Takes the column with the least entry from another one, so many times."""
        for row in self.rows + self.columns:
            row[c] -= many * row[least]
        self.back[least] = [self.back[least][i] + many * value for i, value in enumerate(self.back[c])]

    def solved(self, k, sums):
        """The new unknowns that the equations tell, or None if one of them is no integer divided by a power of k."""
        # The sums are fractions for which the equations go together, so that some may tell nothing new.
        found = []
        for row, step, total in zip(self.rows, self.steps, sums):
            if step is not None:
                left = total
                for c, value in enumerate(found):
                    left = less(left, times((row[c], 1), value))
                found.append(made(left[0], left[1] * row[step]))
                if not divides_power(k, found[-1][1]):
                    return None
        return found


def unit_rows(many):
    return [[1 if i == j else 0 for j in range(many)] for i in range(many)]


def divides_power(k, number):
    """Whether a number divides some power of k."""
    return without_divisors(k, number) == 1


def determinant(rows):
    """That of an integer matrix with few rows."""
    if len(rows) == 0:
        return 1
    total = 0
    sign = 1
    for c, value in enumerate(rows[0]):
        if value != 0:
            total += sign * value * determinant([row[:c] + row[c + 1:] for row in rows[1:]])
        sign = -sign
    return total


def common_zero(rows, many):
    """The numbers, but for a factor, at which these many - 1 linear forms are 0; all 0 if they tell too little."""
    found = []
    sign = 1
    for c in range(many):
        found.append(sign * determinant([row[:c] + row[c + 1:] for row in rows]))
        sign = -sign
    return found
