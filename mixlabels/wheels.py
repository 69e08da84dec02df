"""Wheels of faithful tables: labels that are in each other, and their sums."""

from math import lcm

from mixlabels.errors import NotFaithful, Refused
from mixlabels.faults import fault
from mixlabels.insides import inside_rows
from mixlabels.tables import blend_label

RULES = ("same", "order", "grid")


def check_faithful(table):
    wrong = fault(table)
    if wrong is not None:
        raise NotFaithful(RULES.index(wrong[0]))


def labels_in(table, a):
    check_faithful(table)
    return inside_rows(table)[a]


def wheels(table):
    check_faithful(table)
    return wheel_rows(table)


def wheel_rows(table):
    """The wheels of a table that is known to be faithful."""
    rows = inside_rows(table)
    found = []
    for a in range(table.labels):
        wheel = tuple([b for b in rows[a] if a in rows[b]])
        if wheel[0] == a:
            found.append(wheel)
    return tuple(found)


def wheel_of(table, a):
    check_faithful(table)
    return wheel_number(wheel_rows(table), a)


def wheel_number(rows, a):
    return [a in wheel for wheel in rows].index(True)


def wheel_sum(table, o, a, b):
    check_faithful(table)
    wheel = checked_wheel(table, o, (a, b))
    return sum_of(table, wheel, o, a, b)


def checked_wheel(table, o, labels):
    """The wheel of the zero, if it is that of all these labels."""
    rows = wheel_rows(table)
    wheel = rows[wheel_number(rows, o)]
    for label in labels:
        if label not in wheel:
            raise Refused(label)
    return wheel


def sum_of(table, wheel, o, a, b):
    goal = blend_label(table, (a, b) + (o,) * (table.k - 2))
    blends = [blend_label(table, (c,) + (o,) * (table.k - 1)) for c in wheel]
    return wheel[blends.index(goal)]


def many_times(table, o, a, n):
    check_faithful(table)
    return times_of(table, checked_wheel(table, o, (a,)), o, a, n)


def times_of(table, wheel, o, a, n):
    sums = round_of(table, wheel, o, a)
    return sums[n % len(sums)]


def round_of(table, wheel, o, a):
    """The sums of no, one, two .. labels a, until they begin anew."""
    sums = [o]
    after = a
    while after != o:
        sums.append(after)
        after = sum_of(table, wheel, o, after, a)
    return sums


def exponent(table, o):
    check_faithful(table)
    return exponent_of(table, checked_wheel(table, o, ()), o)


def exponent_of(table, wheel, o):
    found = 1
    for a in wheel:
        found = lcm(found, len(round_of(table, wheel, o, a)))
    return found


def table_modulus(table):
    check_faithful(table)
    return modulus_of(table)


def modulus_of(table):
    """The modulus of a table that is known to be faithful."""
    found = 1
    for wheel in wheel_rows(table):
        found = lcm(found, exponent_of(table, wheel, wheel[0]))
    return found
