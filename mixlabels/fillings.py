"""The mixtures of a case, counted and put in order."""

from math import comb

from mixlabels.arithmetic import power
from mixlabels.errors import Refused
from mixlabels.mixtures import counts_at, lowest
from mixlabels.things import is_below


def count_of(k, modulus, case, depth):
    return filling_count(units_left(k, modulus, case, depth), len(case[0]))


def least_counts(k, modulus, case, depth):
    """The least counts of all shares, times k ** depth, that fit the case, whatever their sum."""
    some, rests = case
    scale = power(k, depth)
    counts = [0] * len(rests)
    for i in some:
        counts[i] = (rests[i] * scale - 1) % modulus + 1
    return counts


def units_left(k, modulus, case, depth):
    """How many times the modulus is left for the contained ingredients; below 0 if there is too little."""
    return (power(k, depth) - sum(least_counts(k, modulus, case, depth))) // modulus


def filling_count(units, many):
    """In how many ways so many ingredients can share the units."""
    if units < 0:
        return 0
    return comb(units + many - 1, many - 1)


def mixture_at(k, modulus, case, depth, at):
    if not is_below(at, count_of(k, modulus, case, depth)):
        raise Refused(4)
    some = case[0]
    counts = least_counts(k, modulus, case, depth)
    units = units_left(k, modulus, case, depth)
    ahead = at
    for place, i in enumerate(some[:-1]):
        many = units_of_first(units, len(some) - place, ahead)
        ahead -= fillings_ahead(units, len(some) - place, many)
        counts[i] += many * modulus
        units -= many
    counts[some[-1]] += units * modulus
    return lowest(k, depth, counts)


def fillings_ahead(units, many, first):
    """How many ways to share the units give fewer than so many to the first ingredient."""
    return filling_count(units, many) - filling_count(units - first, many)


def units_of_first(units, many, at):
    """How many units the first ingredient has in the way with this number."""
    low, high = 0, units
    while low < high:
        middle = (low + high + 1) // 2
        if fillings_ahead(units, many, middle) <= at:
            low = middle
        else:
            high = middle - 1
    return low


def least_depth(k, modulus, case):
    depth = 0
    while units_left(k, modulus, case, depth) < 0:
        depth += 1
    return depth


def first_mixture(k, modulus, case):
    """The first mixture of the case at the least depth."""
    return mixture_at(k, modulus, case, least_depth(k, modulus, case), 0)


def near(k, mixture, modulus, case, depth):
    some = case[0]
    have = counts_at(k, mixture, depth)
    if any([have[i] < modulus for i in some]):
        raise Refused(4)
    # Each count goes down by less than a modulus; what is left over is less than s of them.
    counts = least_counts(k, modulus, case, depth)
    for i in some:
        counts[i] += (have[i] - counts[i]) // modulus * modulus
    counts[some[0]] += sum(have) - sum(counts)
    return lowest(k, depth, counts)
