"""Labels that are forced together if a table is mended."""

from mixlabels.errors import Refused
from mixlabels.groupings import is_grouping
from mixlabels.mending import is_like_pair, mends, merged, own_label, way_between
from mixlabels.things import is_below, is_tuple


def forced(table, one, other):
    check_labels(table, one, other)
    grouping, links = merged(table)
    if grouping[one] != grouping[other]:
        return "apart", grouping
    return "row", tuple([recipes for recipes, _ in way_between(links, one, other)])


def check_labels(table, one, other):
    for at, label in enumerate((one, other)):
        if not is_below(label, table.labels):
            raise Refused(at)


def is_forced_evidence(table, one, other, value):
    check_labels(table, one, other)
    if not is_tuple(value, 2):
        return False
    word, told = value
    if word == "apart":
        return is_grouping(table.labels, told) and told[one] != told[other] and mends(table, told)
    if word != "row" or not isinstance(told, tuple) or not all([is_like_pair(table, pair) for pair in told]):
        return False
    here = one
    for start, end in told:
        if own_label(table, start) != here:
            return False
        here = own_label(table, end)
    return here == other
