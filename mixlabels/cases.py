"""Cases: the contained ingredients and the remainders of the shares."""

from mixlabels.arithmetic import inverse, power
from mixlabels.mixtures import contained, remainders
from mixlabels.things import are_below, is_ascending, is_tuple, subsets, tuples_below


def is_case(ingredients, modulus, value):
    if not is_tuple(value, 2):
        return False
    some, rests = value
    if not isinstance(some, tuple) or len(some) == 0:
        return False
    if not are_below(some, ingredients) or not is_ascending(some):
        return False
    if not is_tuple(rests, ingredients) or not are_below(rests, modulus):
        return False
    if any([rests[i] != 0 for i in range(ingredients) if i not in some]):
        return False
    return (sum(rests) - 1) % modulus == 0


def all_cases(ingredients, modulus):
    return tuple([(some, rests) for some in all_sets(ingredients) for rests in rest_rows(ingredients, modulus, some)])


def all_sets(ingredients):
    """All sets of one or more ingredients, ascending."""
    return sorted(subsets(list(range(ingredients))))[1:]


def rest_rows(ingredients, modulus, some):
    """The remainders of all cases with these contained ingredients, ascending."""
    rows = []
    for free in tuples_below(modulus, len(some) - 1):
        rests = [0] * ingredients
        for at, rest in enumerate(free):
            rests[some[at]] = rest
        # The remainders sum to 1, so the others tell the last one.
        rests[some[-1]] = (1 - sum(free)) % modulus
        rows.append(tuple(rests))
    return rows


def case_count(ingredients, modulus):
    return (power(1 + modulus, ingredients) - 1) // modulus


def case_index(ingredients, modulus, case):
    """The index of a case among all cases."""
    some, rests = case
    ahead = 0
    for other in all_sets(ingredients):
        if other < some:
            ahead += power(modulus, len(other) - 1)
    at = 0
    for i in some[:-1]:
        at = at * modulus + rests[i]
    return ahead + at


def case_of(k, mixture, modulus):
    return contained(mixture), remainders(k, mixture, modulus)


def blend_cases(k, modulus, cases):
    some = sorted(set([i for case in cases for i in case[0]]))
    scale = inverse(k, modulus)
    many = len(cases[0][1])
    rests = [sum([case[1][i] for case in cases]) * scale % modulus for i in range(many)]
    return tuple(some), tuple(rests)
