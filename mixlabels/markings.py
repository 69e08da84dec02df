"""Markings: marks of mixtures that tell apart what is not sure alike."""

from math import gcd

from mixlabels.arithmetic import inverse, power_modulo
from mixlabels.errors import Refused
from mixlabels.foldings import Folding
from mixlabels.likenesses import is_within, sealing
from mixlabels.tables import Table, fits
from mixlabels.things import are_below, is_ascending, is_integer, is_tuple, tuples_below

GREATEST_MODULUS = 10 ** 6


def is_marking(k, ingredients, value):
    if not is_tuple(value, 3):
        return False
    within, modulus, values = value
    if not isinstance(within, tuple) or len(within) == 0 or not are_below(within, ingredients):
        return False
    if not is_ascending(within) or not is_integer(modulus) or not 1 <= modulus <= GREATEST_MODULUS:
        return False
    return gcd(k, modulus) == 1 and is_tuple(values, len(within)) and are_below(values, modulus)


def marked(k, marking, mixture):
    within, modulus, values = marking
    n, counts = mixture
    if not is_within(mixture, within):
        return None
    total = sum([counts[i] * value for i, value in zip(within, values)])
    return total * power_modulo(inverse(k, modulus), n, modulus) % modulus


def marking_book(k, ingredients, marking):
    within, modulus, values = marking
    if not fits(k, modulus + 1):
        raise Refused(0)
    part = inverse(k, modulus)
    results = []
    for cups in tuples_below(modulus + 1, k):
        results.append(modulus if modulus in cups else sum(cups) * part % modulus)
    naming = [modulus] * ingredients
    for i, value in zip(within, values):
        naming[i] = value
    return Table(k, modulus + 1, results), tuple(naming)


def marks_apart(told, one, other, value):
    if not is_marking(told.k, told.ingredients, value):
        return False
    if marked(told.k, value, one) == marked(told.k, value, other):
        return False
    return all([marked(told.k, value, pair[0]) == marked(told.k, value, pair[1]) for pair in told.pairs])


def least_marking(told, one, other):
    some, others = sealing(told, one), sealing(told, other)
    if some != others:
        within = others if all([i in some for i in others]) else some
        return within, 1, (0,) * len(within)
    folding = Folding(told, some)
    ahead, behind = folding.key(one), folding.key(other)
    found = []
    for at, modulus in enumerate(folding.moduli):
        if ahead[at] != behind[at]:
            found.append((least_modulus(told.k, modulus, ahead[at], behind[at]), at))
    if len(found) == 0:
        raise Refused(0)
    least, at = min(found)
    return some, least, (0,) + tuple([value % least for value in folding.diagonal.left[at]])


def least_modulus(k, modulus, one, other):
    """The least number by which two marks leave unlike remainders, however the told pairs change them."""
    if modulus == 0:
        change = one[0] * other[1] - other[0] * one[1]
        allowed = 0
    else:
        change = one - other
        allowed = modulus
    found = 1
    while gcd(found, k) > 1 or allowed % found != 0 or change % found == 0:
        found += 1
    return found
