"""Fractions in lowest terms."""

from math import gcd

from mixlabels.errors import InvalidQuestion
from mixlabels.things import is_integer, is_tuple


def is_fraction(value):
    if not is_tuple(value, 2):
        return False
    top, bottom = value
    if not is_integer(top) or not is_integer(bottom):
        return False
    return bottom >= 1 and gcd(top, bottom) == 1


def made(top, bottom):
    if bottom == 0:
        raise InvalidQuestion(1)
    both = gcd(top, bottom)
    if bottom < 0:
        both = -both
    return top // both, bottom // both


def added(one, other):
    return made(one[0] * other[1] + other[0] * one[1], one[1] * other[1])


def less(one, other):
    return made(one[0] * other[1] - other[0] * one[1], one[1] * other[1])


def times(one, other):
    return made(one[0] * other[0], one[1] * other[1])


def compared(one, other):
    left = one[0] * other[1]
    right = other[0] * one[1]
    if left < right:
        return -1
    if left > right:
        return 1
    return 0
