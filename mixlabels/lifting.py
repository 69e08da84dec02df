"""Lifts from wheel to wheel, and the labels of mixtures by them."""

from mixlabels.cases import case_of, is_case
from mixlabels.errors import InvalidMixture, Refused
from mixlabels.insides import inside_rows
from mixlabels.mixtures import is_mixture
from mixlabels.tables import blend_label
from mixlabels.tasting import checked_naming
from mixlabels.wheels import check_faithful, modulus_of, sum_of, times_of, wheel_number, wheel_rows


def wheel_joins(table):
    check_faithful(table)
    return joins_of(table, wheel_rows(table))


def joins_of(table, rows):
    """For each wheel the numbers of its joins with each wheel."""
    return tuple([tuple([wheel_number(rows, joined(table, v[0], w[0])) for w in rows]) for v in rows])


def joined(table, a, b):
    """A label of the join of the wheels of two labels."""
    return blend_label(table, (a,) + (b,) * (table.k - 1))


def lift(table, a, b):
    check_faithful(table)
    if a not in inside_rows(table)[b]:
        raise Refused(a)
    return lifted(table, modulus_of(table), a, b)


def lifted(table, modulus, a, b):
    """The lift of a label that is known to be in b."""
    found = joined(table, a, b)
    scale = table.k % modulus
    while scale != 1 % modulus:
        found = joined(table, found, b)
        scale = scale * table.k % modulus
    return found


def mixture_label(table, naming, mixture):
    check_faithful(table)
    names = checked_naming(table, naming)
    if not is_mixture(table.k, len(names), mixture):
        raise InvalidMixture(0)
    modulus = modulus_of(table)
    return label_by_case(table, names, modulus, case_of(table.k, mixture, modulus))


def case_label(table, naming, value):
    check_faithful(table)
    names = checked_naming(table, naming)
    modulus = modulus_of(table)
    if not is_case(len(names), modulus, value):
        raise InvalidMixture(0)
    return label_by_case(table, names, modulus, value)


def label_by_case(table, names, modulus, case):
    some, rests = case
    zero = names[some[0]]
    for i in some:
        zero = joined(table, zero, names[i])
    rows = wheel_rows(table)
    top = rows[wheel_number(rows, zero)]
    total = zero
    for i in some:
        part = times_of(table, top, zero, lifted(table, modulus, names[i], zero), rests[i])
        total = sum_of(table, top, zero, total, part)
    return total
