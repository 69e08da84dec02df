"""Patterns: on which sides of some bounds the sums of shares lie."""

from mixlabels.arithmetic import power, sign
from mixlabels.cells import Cells
from mixlabels.questions import weighed


def pattern(k, comparisons, mixture):
    n, counts = mixture
    scale = power(k, n)
    return tuple([sign(weighed(c, counts) - b * scale) for c, b in comparisons])


def patterns(k, comparisons, modulus, case):
    some, rests = case
    cells = Cells(k, comparisons, some)
    return tuple([
        (sides, cells.mixture(at, modulus, rests))
        for at, sides in enumerate(cells.patterns) if cells.is_met(at, modulus, rests)
    ])
