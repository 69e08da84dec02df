"""Mixtures: the shares of all ingredients, and their remainders."""

from math import gcd

from mixlabels.arithmetic import inverse, is_power, power, power_modulo
from mixlabels.errors import InvalidMixture, InvalidQuestion, Refused
from mixlabels.ratios import made
from mixlabels.recipes import standing
from mixlabels.things import first_no_number, is_below, is_integer, is_number, is_sequence, is_tuple


def is_mixture(k, ingredients, value):
    if not is_tuple(value, 2):
        return False
    n, counts = value
    if not is_number(n) or not is_tuple(counts, ingredients):
        return False
    if first_no_number(counts) is not None or not is_power(k, n, sum(counts)):
        return False
    return n == 0 or any([count % k != 0 for count in counts])


def made_mixture(k, n, counts):
    if not is_number(n):
        raise InvalidMixture(0)
    if not is_sequence(counts) or len(counts) == 0:
        raise InvalidMixture(1)
    wrong = first_no_number(counts)
    if wrong is not None:
        raise InvalidMixture(1 + wrong)
    if not is_power(k, n, sum(counts)):
        raise InvalidMixture(1 + len(counts))
    return lowest(k, n, counts)


def lowest(k, n, counts):
    """The mixture with these shares."""
    least = n
    row = list(counts)
    while least > 0 and all([count % k == 0 for count in row]):
        least -= 1
        row = [count // k for count in row]
    return least, tuple(row)


def mixture_of(k, ingredients, recipe):
    stands = standing(recipe)
    deepest = max([deep for deep, _ in stands])
    powers = [power(k, deep) for deep in range(deepest + 1)]
    counts = [0] * ingredients
    for deep, ingredient in stands:
        counts[ingredient] += powers[deepest - deep]
    return lowest(k, deepest, counts)


def blended(k, mixtures):
    deepest = max([n for n, _ in mixtures])
    rows = [counts_at(k, mixture, deepest) for mixture in mixtures]
    counts = [sum([row[i] for row in rows]) for i in range(len(rows[0]))]
    return lowest(k, deepest + 1, counts)


def contained(mixture):
    counts = mixture[1]
    return tuple([i for i in range(len(counts)) if counts[i] != 0])


def share(k, mixture, at):
    n, counts = mixture
    if not is_below(at, len(counts)):
        raise InvalidQuestion(0)
    return made(counts[at], power(k, n))


def counts_at(k, mixture, n):
    least, counts = mixture
    if n < least:
        raise Refused(0)
    many = power(k, n - least)
    return tuple([count * many for count in counts])


def is_modulus(k, value):
    return is_integer(value) and 1 <= value <= 1000 and gcd(value, k) == 1


def remainders(k, mixture, modulus):
    n, counts = mixture
    scale = power_modulo(inverse(k, modulus), n, modulus)
    return tuple([count * scale % modulus for count in counts])
