"""Lines: blends with ever more of one ingredient."""

from math import lcm

from mixlabels.arithmetic import power
from mixlabels.errors import InvalidPair
from mixlabels.tables import blend_label
from mixlabels.tasting import checked_naming
from mixlabels.things import is_below


def check_pair(ingredients, i, j):
    if not is_below(i, ingredients):
        raise InvalidPair(0)
    if not is_below(j, ingredients) or i == j:
        raise InvalidPair(1)


def line(table, naming, i, j):
    names = checked_naming(table, naming)
    check_pair(len(names), i, j)
    labels = []
    label = names[i]
    while label not in labels:
        labels.append(label)
        label = blend_label(table, (label,) + (names[j],) * (table.k - 1))
    return tuple(labels), labels.index(label)


def line_label(table, naming, i, j, t):
    labels, start = line(table, naming, i, j)
    if t < start:
        return labels[t]
    return labels[start + (t - start) % (len(labels) - start)]


def line_plan(k, ingredients, i, j, t):
    check_pair(ingredients, i, j)
    rows = line_rows(k, ingredients, i, j, t)
    return tuple(rows), last_number(ingredients, i, rows)


def line_rows(k, ingredients, i, j, t):
    """The rows of x_1 to x_t."""
    rows = []
    for _ in range(t):
        rows.append((last_number(ingredients, i, rows),) + (j,) * (k - 1))
    return rows


def last_number(ingredients, i, rows):
    """The number of what the last row stands for; without rows it is the ingredient."""
    if len(rows) == 0:
        return i
    return ingredients + len(rows) - 1


def shift(table, naming):
    names = checked_naming(table, naming)
    start, period = 1, 1
    for i in range(len(names)):
        for j in range(len(names)):
            if i != j:
                labels, first = line(table, names, i, j)
                start = max(start, first)
                period = lcm(period, len(labels) - first)
    return start, period


def shift_modulus(table, naming):
    return power(table.k, shift(table, naming)[1]) - 1


def label_modulus(k, labels):
    period = 1
    for many in range(1, labels + 1):
        period = lcm(period, many)
    return power(k, period) - 1
