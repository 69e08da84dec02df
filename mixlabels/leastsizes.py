"""Oracles whose least size is told without search."""

from math import comb, gcd

from mixlabels.cases import all_cases
from mixlabels.oracles import Oracle
from mixlabels.questions import weighed


def remainder_oracle(k, weights, modulus, value):
    cases = all_cases(len(weights), modulus)
    answers = [1 if (weighed(weights, rests) - value) % modulus == 0 else 0 for _, rests in cases]
    return Oracle(k, len(weights), modulus, answers)


def remainder_size(weights, modulus, value):
    divisor = modulus
    for weight in weights:
        divisor = gcd(divisor, weight - weights[0])
    if (value - weights[0]) % divisor != 0:
        return 1
    return modulus // divisor


def among_oracle(k, ingredients, some, least):
    cases = all_cases(ingredients, 1)
    return Oracle(k, ingredients, 1, [1 if are_among(contained, some) >= least else 0 for contained, _ in cases])


def are_among(contained, some):
    """How many of some ingredients are contained."""
    return len([i for i in some if i in contained])


def among_size(ingredients, some, least):
    if least == 0 or least > len(some):
        return 1
    lots = sum([comb(len(some), many) for many in range(least)])
    # Without other ingredients something of these is always contained.
    return lots if len(some) == ingredients else lots + 1
