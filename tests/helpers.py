"""What several tests need."""

import itertools
import math
import random

from mixlabels.leaves import recipe_with
from mixlabels.mixtures import made_mixture
from mixlabels.tables import Table

# Values of every other kind; none of them is a number, a label, a place or a recipe.
ODD = (
    None, True, False, "", "0", "(0 1)", b"", b"\x00\x01", -1, -7, 10 ** 30, 1.0, 0.0, (), [], {}, {0: 0}, set(), [0],
    [0, 1], [[0]], ["a"], [None], {"a": 1}, ("a", "b"), ((), ()), ((((0,),),),), (None,), (True, False), object(),
    len, Table,
)
# Those of them that are no sequences.
NO_SEQUENCES = tuple(value for value in ODD if not isinstance(value, (list, tuple)))
SIZES = (2, 3, 4, 5)


def nested(times, value=0):
    """A tuple of a tuple of a tuple .."""
    for _ in range(times):
        value = (value, value)
    return value


def deep_value(times):
    value = ()
    for _ in range(times):
        value = (value,)
    return value


def error_of(work, *values, **named):
    """The pair of the class's name and `at` of the error raised; None if there is none."""
    from mixlabels.errors import MixError
    try:
        work(*values, **named)
    except MixError as error:
        return error.__class__.__name__, getattr(error, "at", None)
    return None


def random_recipe(rnd, k, ingredients, deep, chance=0.7):
    if deep == 0 or rnd.random() > chance:
        return rnd.randrange(ingredients)
    return tuple(random_recipe(rnd, k, ingredients, deep - 1, chance) for _ in range(k))


def grown_pairs(rnd, k, ingredients, most, deepest=12):
    """The leaves of a recipe with nearly as many ingredients as told."""
    depths = [0]
    while len(depths) + k - 1 <= most:
        places = [at for at, deep in enumerate(depths) if deep < deepest]
        if not places:
            break
        deep = depths.pop(rnd.choice(places))
        depths += [deep + 1] * k
    return [(deep, rnd.randrange(ingredients)) for deep in depths]


def grown_recipe(rnd, k, ingredients, most, deepest=12):
    return recipe_with(k, grown_pairs(rnd, k, ingredients, most, deepest))


def all_recipes(k, ingredients, deep):
    """Every recipe that is at most so deep."""
    found = list(range(ingredients))
    for _ in range(deep):
        found = list(range(ingredients)) + list(itertools.product(found, repeat=k))
    return found


def all_rows(total, many):
    """All tuples of so many numbers with this sum, ascending."""
    if many == 1:
        return [(total,)]
    return [(first,) + rest for first in range(total + 1) for rest in all_rows(total - first, many - 1)]


def all_mixtures(k, ingredients, n):
    """All mixtures with an n of at most this, by their counts times k ** n."""
    return [made_mixture(k, n, row) for row in all_rows(k ** n, ingredients)]


def random_table(rnd, k, labels):
    return Table(k, labels, [rnd.randrange(labels) for _ in range(labels ** k)])


def calm_table(rnd, k, labels, keep_same=True):
    """A table that keeps the rule of order, and of same if so told."""
    results = {}
    row = []
    for cups in itertools.product(range(labels), repeat=k):
        key = tuple(sorted(cups))
        if key not in results:
            results[key] = cups[0] if keep_same and len(set(cups)) == 1 else rnd.randrange(labels)
        row.append(results[key])
    return Table(k, labels, row)


def most_labels(k):
    return {2: 12, 3: 9, 4: 5, 5: 3}[k]


def least_table(k, labels):
    """The blend has the least label."""
    return Table(k, labels, [min(cups) for cups in itertools.product(range(labels), repeat=k)])


def first_table(k, labels):
    """The blend has the label of its first cup."""
    return Table(k, labels, [cups[0] for cups in itertools.product(range(labels), repeat=k)])


def moduli_of(k, most):
    return [d for d in range(1, most + 1) if math.gcd(k, d) == 1]


def generator(seed=1):
    return random.Random(seed)
