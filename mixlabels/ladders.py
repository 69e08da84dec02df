"""Ladders: the label of a blend is the leader of the least and the greatest label."""

from mixlabels.errors import InvalidTable, Refused
from mixlabels.recipes import checked_bowl
from mixlabels.tables import Table, fits
from mixlabels.things import is_below, is_sequence, tuples_below


def checked_priorities(priorities):
    if not is_sequence(priorities) or len(priorities) == 0:
        raise Refused(0)
    for at, label in enumerate(priorities):
        if not is_below(label, len(priorities)) or label in priorities[:at]:
            raise Refused(at)
    return tuple(priorities)


def leader(priorities, x, y):
    return leader_of(checked_priorities(priorities), x, y)


def leader_of(priorities, x, y):
    """The leader by a list that is known to be one of priorities."""
    low, high = min(x, y), max(x, y)
    return [label for label in priorities if low <= label <= high][0]


def ladder_table(k, priorities):
    checked_bowl(k)
    checked = checked_priorities(priorities)
    if not fits(k, len(checked)):
        raise InvalidTable(0)
    results = [leader_of(checked, min(cups), max(cups)) for cups in tuples_below(len(checked), k)]
    return Table(k, len(checked), results)
