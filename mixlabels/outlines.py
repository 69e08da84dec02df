"""Outlines: each the first of the priority lists that give its ladder."""

from math import comb

from mixlabels.errors import Refused
from mixlabels.ladders import checked_priorities
from mixlabels.rising import fall
from mixlabels.tables import blend_label
from mixlabels.things import is_below
from mixlabels.wheels import check_faithful


def outline_for(priorities):
    return outline_by(checked_priorities(priorities))


def outline_by(priorities):
    """The outline of labels in the order of their priorities."""
    if len(priorities) == 0:
        return ()
    less, greater = parts_of(priorities)
    return (priorities[0],) + outline_by(less) + outline_by(greater)


def parts_of(priorities):
    """The labels less than the first one, and those greater, in their order."""
    first = priorities[0]
    return [label for label in priorities if label < first], [label for label in priorities if label > first]


def outline_of(table):
    check_faithful(table)
    if fall(table) is not None:
        raise Refused(0)
    return outline_between(table, 0, table.labels - 1)


def outline_between(table, low, high):
    """The outline of the labels from low to high, in a ladder."""
    if low > high:
        return ()
    first = blend_label(table, (low,) + (high,) * (table.k - 1))
    return (first,) + outline_between(table, low, first - 1) + outline_between(table, first + 1, high)


def list_count(outline):
    if len(outline) == 0:
        return 1
    less, greater = parts_of(outline)
    # The labels on both sides may come in turn, as they like.
    return comb(len(outline) - 1, len(less)) * list_count(less) * list_count(greater)


def outline_count(n):
    return comb(2 * n, n) // (n + 1)


def outlines_with(n, first):
    """How many outlines of n labels begin with this one."""
    return outline_count(first) * outline_count(n - 1 - first)


def nth_outline(n, at):
    if not is_below(at, outline_count(n)):
        raise Refused(0)
    return tuple(nth_from(0, n, at))


def nth_from(low, n, at):
    """The outline with this index of the n labels from low on, as a list."""
    if n == 0:
        return []
    first = 0
    ahead = at
    while ahead >= outlines_with(n, first):
        ahead -= outlines_with(n, first)
        first += 1
    less, greater = divmod(ahead, outline_count(n - 1 - first))
    return [low + first] + nth_from(low, first, less) + nth_from(low + first + 1, n - 1 - first, greater)


def outline_index(outline):
    return index_from(0, outline)


def index_from(low, outline):
    """The index of an outline of the labels from low on."""
    n = len(outline)
    if n == 0:
        return 0
    first = outline[0] - low
    ahead = sum([outlines_with(n, other) for other in range(first)])
    less, greater = parts_of(outline)
    return ahead + index_from(low, less) * outline_count(len(greater)) + index_from(outline[0] + 1, greater)
