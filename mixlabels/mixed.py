"""Mixed recipes: blends of several sizes."""

from math import gcd, lcm

from mixlabels.arithmetic import inverse, without_divisors
from mixlabels.errors import InvalidRecipe, Refused
from mixlabels.ratios import added, is_fraction, less
from mixlabels.recipes import read_ahead_of_wrong


def checked_mixed(sizes, ingredients, value):
    read = read_ahead_of_wrong(sizes, ingredients, value)
    if read is not None:
        raise InvalidRecipe(read)
    return value


def is_mixed(sizes, ingredients, value):
    """Whether any value is a mixed recipe."""
    return read_ahead_of_wrong(sizes, ingredients, value) is None


def mixed_shares(ingredients, recipe):
    found = [(0, 1)] * ingredients
    waiting = [(recipe, 1)]
    while len(waiting) > 0:
        here, parts = waiting.pop()
        if isinstance(here, tuple):
            for cup in here:
                waiting.append((cup, parts * len(here)))
        else:
            found[here] = added(found[here], (1, parts))
    return tuple(found)


def is_shares(sizes, value):
    if not isinstance(value, tuple) or not all([is_fraction(share) for share in value]):
        return False
    total = (0, 1)
    for share in value:
        if share[0] < 0 or not is_made_of(share[1], sizes):
            return False
        total = added(total, share)
    return total == (1, 1)


def is_made_of(number, sizes):
    """Whether each prime divisor of the number divides some size."""
    left = number
    for size in sizes:
        left = without_divisors(size, left)
    return left == 1


def mixed_recipe(sizes, shares):
    whole = 1
    for _, bottom in shares:
        whole = lcm(whole, bottom)
    blends = blends_for(sizes, whole)
    many = 1
    for size in blends:
        many = many * size
    row = []
    for i, (top, bottom) in enumerate(shares):
        row.extend([i] * (top * many // bottom))
    return nested(blends, row)


def blends_for(sizes, whole):
    """Sizes, with repetitions, whose product the number divides."""
    found = []
    left = whole
    # The least size with a prime divisor has the fewest others: so the product is at most twice the number.
    for size in sizes:
        while gcd(left, size) > 1:
            found.append(size)
            left = left // gcd(left, size)
    return found


def nested(sizes, row):
    """The recipe with this row of ingredients, blended by these sizes from the outermost one on."""
    if row[0] == row[-1]:
        return row[0]
    part = len(row) // sizes[0]
    return tuple([nested(sizes[1:], row[at:at + part]) for at in range(0, len(row), part)])


def share_remainders(shares, modulus):
    for at, share in enumerate(shares):
        if gcd(share[1], modulus) > 1:
            raise Refused(at)
    return tuple([top * inverse(bottom, modulus) % modulus for top, bottom in shares])


def told_apart(sizes, one, other):
    if tuple(one) == tuple(other):
        return None
    if any([(ahead[0] == 0) != (behind[0] == 0) for ahead, behind in zip(one, other)]):
        return 1
    changes = [less(ahead, behind)[0] for ahead, behind in zip(one, other)]
    found = 2
    while any([gcd(found, size) > 1 for size in sizes]) or all([change % found == 0 for change in changes]):
        found += 1
    return found
