"""Closed sets of labels: no blend leads out of them."""

from mixlabels.errors import InvalidNaming
from mixlabels.tables import blend_label
from mixlabels.things import are_below, first_not_below, is_sequence, subsets, tuples_of


def is_closed(table, value):
    if not isinstance(value, tuple) or not are_below(value, table.labels):
        return False
    # A closure is ascending, so no other tuple equals one.
    return spread(table, value) == value


def closure(table, labels):
    return spread(table, checked_labels(table, labels))


def checked_labels(table, labels):
    if not is_sequence(labels):
        raise InvalidNaming(0)
    wrong = first_not_below(labels, table.labels)
    if wrong is not None:
        raise InvalidNaming(wrong)
    return labels


def spread(table, labels):
    """The closure of some labels."""
    known = sorted(set(labels))
    while True:
        blends = [blend_label(table, cups) for cups in tuples_of(known, table.k)]
        more = sorted(set(known + blends))
        if len(more) == len(known):
            return tuple(known)
        known = more


def closed_sets(table):
    return tuple([some for some in sorted(subsets(list(range(table.labels)))) if spread(table, some) == some])


def generators(table, labels):
    goal = spread(table, checked_labels(table, labels))
    lots = sorted(subsets(goal))
    for many in range(len(goal)):
        for some in lots:
            if len(some) == many and spread(table, some) == goal:
                return some
    return goal
