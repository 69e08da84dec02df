"""Standard tables: their labels stand for all cases."""

from math import gcd

from mixlabels.cases import all_cases, blend_cases, case_count, case_index
from mixlabels.errors import Refused
from mixlabels.tables import Table, fits
from mixlabels.things import tuples_of


def standard_table(k, m, d):
    check_coprime(k, d)
    many = case_count(m, d)
    if not fits(k, many):
        raise Refused(many)
    blends = [blend_cases(k, d, cups) for cups in tuples_of(all_cases(m, d), k)]
    return Table(k, many, [case_index(m, d, blend) for blend in blends])


def standard_naming(k, m, d):
    check_coprime(k, d)
    names = []
    for i in range(m):
        rests = [0] * m
        rests[i] = 1 % d
        names.append(case_index(m, d, ((i,), tuple(rests))))
    return tuple(names)


def check_coprime(k, d):
    if gcd(d, k) != 1:
        raise Refused(0)
