"""The leaves of a recipe: at which depths its ingredients stand."""

from math import factorial

from mixlabels.arithmetic import is_power_above, power
from mixlabels.errors import Refused
from mixlabels.mixtures import counts_at
from mixlabels.recipes import MOST_INGREDIENTS, depth, standing


def leaves(recipe):
    return tuple(sorted(standing(recipe)))


def recipe_with(k, pairs):
    levels = levels_of(pairs)
    if places_left(k, levels) != 0:
        raise Refused(0)
    parts = []
    for level in reversed(levels):
        parts = sorted(level) + [tuple(parts[at:at + k]) for at in range(0, len(parts), k)]
    return parts[0]


def levels_of(pairs):
    """For each depth a list of the ingredients that stand there."""
    deepest = max([deep for deep, _ in pairs], default=0)
    levels = [[] for _ in range(deepest + 1)]
    for deep, ingredient in pairs:
        levels[deep].append(ingredient)
    return levels


def places_left(k, levels):
    """How many places below the last level stay free; below 0 if some ingredients have no place."""
    free = 1
    for at, level in enumerate(levels):
        if at > 0:
            free = free * k
        free -= len(level)
    return free


def arrangement_count(k, pairs):
    levels = levels_of(pairs)
    if places_left(k, levels) != 0:
        return 0
    ways = 1
    places = 1
    for level in levels:
        blends = places - len(level)
        ways = ways * level_ways(places, level)
        places = blends * k
    return ways


def level_ways(places, level):
    """In how many ways these ingredients, and blends for the rest, can take the places of one depth."""
    ways = factorial(places) // factorial(places - len(level))
    for ingredient in sorted(set(level)):
        ways = ways // factorial(level.count(ingredient))
    return ways


def fewest(k, mixture):
    n, counts = mixture
    pairs = []
    for ingredient, count in enumerate(counts):
        pairs.extend(digit_leaves(k, n, ingredient, count))
    return tuple(sorted(pairs))


def digit_leaves(k, n, ingredient, count):
    """The fewest leaves of one ingredient with the share count / k ** n."""
    pairs = []
    deep = n
    left = count
    while left > 0:
        pairs.extend([(deep, ingredient)] * (left % k))
        left = left // k
        deep -= 1
    return pairs


def recipe_of(k, mixture):
    return recipe_with(k, fewest(k, mixture))


def recipe_count(k, mixture, deep):
    n, counts = mixture
    if n > deep:
        return 0
    wanted = counts_at(k, mixture, deep)
    ways = pure_ways(len(counts), 1, wanted)
    for level in range(deep):
        pure = pure_ways(len(counts), power(k, level + 1), wanted)
        ways = blend_ways(k, ways, wanted)
        for row in pure:
            ways[row] = ways.get(row, 0) + 1
    return ways.get(wanted, 0)


def pure_ways(ingredients, many, wanted):
    """The counts of each pure ingredient that fits into what is wanted, each once."""
    ways = {}
    for i in range(ingredients):
        if many <= wanted[i]:
            ways[tuple([many if j == i else 0 for j in range(ingredients)])] = 1
    return ways


def blend_ways(k, ways, wanted):
    """In how many ways k cups with such counts come to all counts that fit into what is wanted."""
    found = {tuple([0] * len(wanted)): 1}
    for _ in range(k):
        sums = {}
        for total, many in found.items():
            for row, more in ways.items():
                joined = tuple([total[i] + row[i] for i in range(len(row))])
                if all([joined[i] <= wanted[i] for i in range(len(row))]):
                    sums[joined] = sums.get(joined, 0) + many * more
        found = sums
    return found


def full(k, recipe, deep):
    if depth(recipe) > deep:
        raise Refused(0)
    if is_power_above(k, deep, MOST_INGREDIENTS):
        raise Refused(1)
    return filled(k, recipe, deep)


def filled(k, recipe, deep):
    if deep == 0:
        return recipe
    cups = recipe
    if not isinstance(recipe, tuple):
        cups = (recipe,) * k
    return tuple([filled(k, cup, deep - 1) for cup in cups])
