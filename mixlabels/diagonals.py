"""Integer matrices made diagonal."""

from mixlabels.lattices import unit_rows


class Diagonal:
    """A matrix of integers, brought by whole sums of rows and of columns to numbers that divide one another."""

    def __init__(self, rows, many):
        self.rows = [list(row) for row in rows]
        # The matrix at the end is that at the beginning between these two.
        self.left = unit_rows(len(rows))
        self.right = unit_rows(many)
        self.numbers = []
        while self.bring(len(self.numbers), many):
            self.numbers.append(abs(self.rows[len(self.numbers)][len(self.numbers)]))

    def bring(self, at, many):
        """Makes the next number: whether anything is left that is not 0."""
        left = self.left_over(at, many)
        while len(left) > 0:
            _, r, c = min(left)
            self.to_front(at, r, c)
            if self.clears(at, many):
                return True
            left = self.left_over(at, many)
        return False

    def left_over(self, at, many):
        """The triples (size, row, column) of the entries that are not 0."""
        found = [(abs(self.rows[r][c]), r, c) for r in range(at, len(self.rows)) for c in range(at, many)]
        return [place for place in found if place[0] > 0]

    def to_front(self, at, r, c):
        self.rows[at], self.rows[r] = self.rows[r], self.rows[at]
        self.left[at], self.left[r] = self.left[r], self.left[at]
        for row in self.rows + self.right:
            row[at], row[c] = row[c], row[at]

    def clears(self, at, many):
        """Takes the first row and column from the others: whether nothing was left that it does not divide."""
        here = self.rows[at][at]
        for r in range(at + 1, len(self.rows)):
            self.take_row(r, at, self.rows[r][at] // here)
        for c in range(at + 1, many):
            self.take_column(c, at, self.rows[at][c] // here)
        if any([value != 0 for value in self.rows[at][at + 1:]]):
            return False
        for r in range(at + 1, len(self.rows)):
            if any([value % here != 0 for value in self.rows[r]]):
                # With this row added the first one has an entry that leaves a remainder.
                self.take_row(at, r, -1)
                return False
        return True

    def take_row(self, one, other, many):
        self.rows[one] = [value - many * less for value, less in zip(self.rows[one], self.rows[other])]
        self.left[one] = [value - many * less for value, less in zip(self.left[one], self.left[other])]

    def take_column(self, one, other, many):
        for row in self.rows + self.right:
            row[one] -= many * row[other]
