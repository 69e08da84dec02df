"""What the mixture alone tells about the label."""

from mixlabels.arithmetic import power
from mixlabels.errors import Refused
from mixlabels.groupings import classes_of, is_grouping
from mixlabels.mending import is_like_pair, mends, merged, own_label
from mixlabels.things import is_below, is_sequence, is_tuple


def told_by_mixture(table, some):
    check_some(table, some)
    grouping, links = merged(table)
    for recipes, (one, other) in links:
        if one in some and other not in some:
            return "not told", recipes
        if other in some and one not in some:
            return "not told", (recipes[1], recipes[0])
    return "told", grouping


def check_some(table, some):
    if not is_sequence(some):
        raise Refused(0)
    for at, label in enumerate(some):
        if not is_below(label, table.labels) or label in some[:at]:
            raise Refused(at)


def is_told_evidence(table, some, value):
    check_some(table, some)
    if not is_tuple(value, 2):
        return False
    word, told = value
    if word == "told":
        if not is_grouping(table.labels, told) or not mends(table, told):
            return False
        inside = [[label in some for label in labels] for labels in classes_of(told)]
        return all([all(row) or not any(row) for row in inside])
    if word != "not told" or not is_like_pair(table, told):
        return False
    return own_label(table, told[0]) in some and own_label(table, told[1]) not in some


def told_sets(table):
    return power(2, 1 + max(merged(table)[0]))
