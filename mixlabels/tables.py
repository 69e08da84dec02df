"""Tables: the label of each blend."""

from mixlabels.arithmetic import power
from mixlabels.errors import InvalidBowl, InvalidTable, Refused
from mixlabels.recipes import is_bowl
from mixlabels.things import first_not_below, is_integer, is_sequence

MOST_LABELS = 12
MOST_RESULTS = 729


class Table:
    """What the blend of k cups is labelled, for all k-tuples of labels, ascending."""

    def __init__(self, k, labels, results):
        if not is_bowl(k):
            raise InvalidBowl(0)
        if not is_integer(labels) or not fits(k, labels):
            raise InvalidTable(0)
        many = power(labels, k)
        if not is_sequence(results):
            raise InvalidTable(many)
        wrong = first_not_below(results, labels)
        if wrong is not None:
            raise InvalidTable(wrong)
        if len(results) != many:
            raise InvalidTable(many)
        self.k = k
        self.labels = labels
        self.results = tuple(results)

    def __eq__(self, other):
        if not isinstance(other, Table):
            return False
        return self.k == other.k and self.labels == other.labels and self.results == other.results

    def blend(self, cups):
        if not is_sequence(cups):
            raise Refused(self.k)
        wrong = first_not_below(cups, self.labels)
        if wrong is not None:
            raise Refused(wrong)
        if len(cups) != self.k:
            raise Refused(self.k)
        return blend_label(self, cups)


def fits(k, labels):
    """Whether a table may have so many labels."""
    return 1 <= labels <= MOST_LABELS and power(labels, k) <= MOST_RESULTS


def blend_label(table, cups):
    """The label of the blend of k cups that are known to be labels."""
    at = 0
    for cup in cups:
        at = at * table.labels + cup
    return table.results[at]
