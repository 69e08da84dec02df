"""Tables made of joins, of numbers, and of other tables."""

from math import gcd

from mixlabels.arithmetic import inverse
from mixlabels.closed import closure
from mixlabels.errors import InvalidTable, Refused
from mixlabels.tables import Table, blend_label, fits
from mixlabels.things import tuples_below, tuples_of


def join_table(k, joins):
    if not fits(k, len(joins)):
        raise InvalidTable(0)
    for a in range(len(joins)):
        if not joins_well(joins, a):
            raise Refused(a)
    return Table(k, len(joins), [join_of_all(joins, cups) for cups in tuples_below(len(joins), k)])


def joins_well(joins, a):
    if joins[a][a] != a:
        return False
    for b in range(len(joins)):
        if joins[a][b] != joins[b][a]:
            return False
        for c in range(len(joins)):
            if joins[joins[a][b]][c] != joins[a][joins[b][c]]:
                return False
    return True


def join_of_all(joins, cups):
    found = cups[0]
    for cup in cups:
        found = joins[found][cup]
    return found


def mean_table(k, n):
    if gcd(n, k) != 1:
        raise Refused(0)
    if not fits(k, n):
        raise InvalidTable(0)
    scale = inverse(k, n)
    return Table(k, n, [sum(cups) * scale % n for cups in tuples_below(n, k)])


def pair_table(one, other):
    if one.k != other.k:
        raise Refused(0)
    many = one.labels * other.labels
    if not fits(one.k, many):
        raise InvalidTable(0)
    results = []
    for cups in tuples_below(many, one.k):
        left = blend_label(one, [cup // other.labels for cup in cups])
        right = blend_label(other, [cup % other.labels for cup in cups])
        results.append(left * other.labels + right)
    return Table(one.k, many, results)


def part_table(table, some):
    labels = closure(table, some)
    if len(labels) == 0:
        raise Refused(0)
    blends = [blend_label(table, cups) for cups in tuples_of(labels, table.k)]
    return Table(table.k, len(labels), [labels.index(label) for label in blends])


def image_table(table, classes):
    many = 1 + max(classes)
    blends = {}
    for cups in tuples_below(table.labels, table.k):
        place = tuple([classes[cup] for cup in cups])
        found = classes[blend_label(table, cups)]
        if blends.setdefault(place, found) != found:
            raise Refused(0)
    return Table(table.k, many, [blends[cups] for cups in tuples_below(many, table.k)])
