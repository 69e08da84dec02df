"""Integer equations, solved without fractions on the way."""

from mixlabels.ratios import made


def pivoted(rows, at, column, scale):
    """The rows after one of them is taken away from the others, so often that the column comes to be 0 there."""
    # The entries stand for themselves divided by the scale, afterwards by the entry of the column in the row.
    here = column[at]
    return [
        row if i == at else [(here * value - column[i] * other) // scale for value, other in zip(row, rows[at])]
        for i, row in enumerate(rows)
    ]


def solution(rows):
    """The only fractions for which all equations hold: as many as there are, each with its sum behind its numbers."""
    left = rows
    scale = 1
    for c in range(len(rows)):
        at = [i for i in range(c, len(rows)) if left[i][c] != 0][0]
        left = left[:c] + [left[at]] + left[c:at] + left[at + 1:]
        column = [row[c] for row in left]
        left = pivoted(left, c, column, scale)
        scale = column[c]
    return [made(row[-1], scale) for row in left]
