"""Rising tables: a better cup never makes a worse blend."""

from mixlabels.tables import blend_label
from mixlabels.things import are_below, is_below, is_tuple, tuples_below


def fall(table):
    for cups in tuples_below(table.labels, table.k):
        for i in range(table.k):
            if falls(table, cups, i):
                return cups, i
    return None


def falls(table, cups, i):
    """Whether the blend gets a lesser label if cup i gets the next greater one, which there may not be."""
    if cups[i] + 1 == table.labels:
        return False
    better = cups[:i] + (cups[i] + 1,) + cups[i + 1:]
    return blend_label(table, cups) > blend_label(table, better)


def is_fall(table, value):
    if not is_tuple(value, 2):
        return False
    cups, i = value
    if not is_tuple(cups, table.k) or not are_below(cups, table.labels) or not is_below(i, table.k):
        return False
    return falls(table, cups, i)
