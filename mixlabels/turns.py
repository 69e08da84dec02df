"""Where an answer turns along a chain, and within a case."""

from mixlabels.arithmetic import power
from mixlabels.cases import all_cases
from mixlabels.errors import Refused
from mixlabels.fillings import least_counts, units_left
from mixlabels.mixtures import lowest
from mixlabels.oracles import Oracle


class Search:
    """A stretch of a chain whose ends are answered unlike."""

    def __init__(self, chain, low, high):
        self.chain = chain
        self.low = low
        self.high = high
        self.middle = None
        if high > low + 1:
            self.middle = (low + high) // 2

    def halved(self, is_like_low):
        if self.middle is None:
            raise Refused(0)
        if is_like_low:
            return Search(self.chain, self.middle, self.high)
        return Search(self.chain, self.low, self.middle)


def on_case(k, modulus, case, weights, bound):
    i, j = least_and_greatest(case, weights)
    top, bottom = bound
    # The sums come as near as one likes to the least and to the greatest weight, but reach
    # them only if all weights of contained ingredients are the same.
    if weights[i] * bottom >= top:
        return ("all",)
    if weights[j] * bottom <= top:
        return ("none",)
    depth = 1
    moves = moves_to_bound(k, modulus, case, depth, weights, bound)
    while moves is None:
        depth += 1
        moves = moves_to_bound(k, modulus, case, depth, weights, bound)
    below = lowest(k, depth, counts_after(k, modulus, case, depth, weights, moves - 1))
    above = lowest(k, depth, counts_after(k, modulus, case, depth, weights, moves))
    return "turn", depth, below, above


def least_and_greatest(case, weights):
    """The contained ingredients with the least and with the greatest weight."""
    ranked = sorted([(weights[i], i) for i in case[0]])
    return ranked[0][1], ranked[-1][1]


def counts_after(k, modulus, case, depth, weights, moves):
    """As much as can be of the ingredient of least weight, then so many moves to that of the greatest."""
    i, j = least_and_greatest(case, weights)
    counts = least_counts(k, modulus, case, depth)
    counts[i] += (units_left(k, modulus, case, depth) - moves) * modulus
    counts[j] += moves * modulus
    return counts


def moves_to_bound(k, modulus, case, depth, weights, bound):
    """After how many moves, from 1 on, the bound is first reached at this depth, or None."""
    i, j = least_and_greatest(case, weights)
    counts = counts_after(k, modulus, case, depth, weights, 0)
    top, bottom = bound
    lack = top * power(k, depth) - bottom * sum([weights[at] * count for at, count in enumerate(counts)])
    gain = bottom * modulus * (weights[j] - weights[i])
    moves = (lack + gain - 1) // gain
    if not 1 <= moves <= units_left(k, modulus, case, depth):
        return None
    return moves


def by_labels(k, ingredients, weights, bound):
    top, bottom = bound
    lesser = [i for i in range(ingredients) if weights[i] * bottom < top]
    greater = [j for j in range(ingredients) if weights[j] * bottom > top]
    if len(lesser) > 0 and len(greater) > 0:
        return "turns", lesser[0], greater[0]
    told = [on_case(k, 1, case, weights, bound) for case in all_cases(ingredients, 1)]
    return "oracle", Oracle(k, ingredients, 1, [1 if kind == ("all",) else 0 for kind in told])
