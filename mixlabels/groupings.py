"""Groupings of labels, and whether a table keeps them."""

from mixlabels.tables import blend_label
from mixlabels.things import is_below, is_tuple, tuples_below


def is_grouping(labels, value):
    if not is_tuple(value, labels):
        return False
    most = 0
    for number in value:
        if not is_below(number, most + 1):
            return False
        most = max(most, number + 1)
    return True


def numbered(things):
    """The grouping that takes like things together."""
    names = {}
    for thing in things:
        names.setdefault(thing, len(names))
    return tuple([names[thing] for thing in things])


def grouping_of(labels, pairs):
    marks = list(range(labels))
    for one, other in pairs:
        marks = [marks[one] if mark == marks[other] else mark for mark in marks]
    return numbered(marks)


def is_finer(one, other):
    return met(one, other) == tuple(one)


def joined(one, other):
    pairs = []
    for grouping in (one, other):
        for some in classes_of(grouping):
            pairs.extend([(some[0], label) for label in some])
    return grouping_of(len(one), pairs)


def met(one, other):
    return numbered(list(zip(one, other)))


def classes_of(grouping):
    found = [[] for _ in range(1 + max(grouping))]
    for label, number in enumerate(grouping):
        found[number].append(label)
    return tuple([tuple(some) for some in found])


def clash(table, grouping):
    classes = classes_of(grouping)
    for cups in tuples_below(table.labels, table.k):
        here = grouping[blend_label(table, cups)]
        for i, cup in enumerate(cups):
            for other in classes[grouping[cup]]:
                if grouping[blend_label(table, cups[:i] + (other,) + cups[i + 1:])] != here:
                    return cups, i, other
    return None
