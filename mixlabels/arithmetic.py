"""Powers and remainders."""

from math import gcd


def sign(number):
    """-1, 0 or 1 as the number is below 0, 0 or above it."""
    if number < 0:
        return -1
    if number > 0:
        return 1
    return 0


def power(base, exponent):
    found = 1
    square = base
    left = exponent
    while left > 0:
        if left & 1:
            found = found * square
        left = left >> 1
        if left > 0:
            square = square * square
    return found


def is_power(base, exponent, total):
    """Whether the total is this power of a base from 2 on."""
    # An exponent of any size may be asked about: most of these powers are too large to be made.
    return exponent <= total.bit_length() and power(base, exponent) == total


def is_power_above(base, exponent, limit):
    """Whether this power of a base from 2 on is above the limit."""
    found = 1
    for _ in range(min(exponent, limit.bit_length())):
        found = found * base
    return found > limit


def power_modulo(base, exponent, modulus):
    found = 1 % modulus
    square = base
    left = exponent
    while left > 0:
        if left & 1:
            found = found * square % modulus
        square = square * square % modulus
        left = left >> 1
    return found


def inverse(number, modulus):
    """What the number is to be multiplied by to leave the remainder of 1."""
    one, other = 1, 0
    high, low = number % modulus, modulus
    while low > 0:
        many = high // low
        high, low = low, high - many * low
        one, other = other, one - many * other
    return one % modulus


def without_divisors(k, number):
    """The number without all that it has in common with powers of k."""
    left = number
    both = gcd(left, k)
    while both > 1:
        left = left // both
        both = gcd(left, k)
    return left


def joint_remainder(one, modulus, other, other_modulus):
    """The least number with both remainders, which are alike modulo what divides both moduli."""
    both = gcd(modulus, other_modulus)
    rest = other_modulus // both
    many = (other - one) // both * inverse(modulus // both, rest) % rest
    return (one + modulus * many) % (modulus * rest)
