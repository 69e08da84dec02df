"""What follows if some mixtures are told to bear the same label."""

from mixlabels.arithmetic import power
from mixlabels.errors import Refused
from mixlabels.foldings import Folding, mixture_key
from mixlabels.likenesses import is_within, sealing
from mixlabels.mixtures import counts_at
from mixlabels.questions import weighed
from mixlabels.things import is_integer, is_number, is_tuple

MOST_DIVIDED = 60


def sure_alike(told, one, other):
    return mixture_key(told, one) == mixture_key(told, other)


def multipliers(told, one, other):
    if not sure_alike(told, one, other):
        raise Refused(0)
    folding = Folding(told, sealing(told, one))
    n = max(one[0], other[0], folding.depth)
    change = folding.change(one, other, n)
    # The unknowns times k ** (n - depth), told by the numbers of the diagonal.
    diagonal = folding.diagonal
    sums = [weighed(row, change) for row in diagonal.left]
    e = 0
    scale = power(told.k, n - folding.depth)
    while any([total * power(told.k, e) % (number * scale) != 0 for total, number in zip(sums, diagonal.numbers)]):
        e += 1
    values = []
    for at, number in enumerate(diagonal.numbers):
        values.append(sums[at] * power(told.k, e) // (diagonal.rows[at][at] * scale))
    row = [0] * len(told)
    for at, steps in zip(folding.indexes, diagonal.right):
        row[at] = weighed(steps, values)
    return e, tuple(row)


def is_multipliers(told, one, other, value):
    if not is_tuple(value, 2) or not is_number(value[0]) or value[0] > MOST_DIVIDED:
        return False
    e, row = value
    if not is_tuple(row, len(told)) or not all([is_integer(number) for number in row]):
        return False
    some = sealing(told, one)
    if sealing(told, other) != some:
        return False
    if any([number != 0 and not is_within(pair[0], some) for number, pair in zip(row, told.pairs)]):
        return False
    n = max([mixture[0] for pair in told.pairs + ((one, other),) for mixture in pair])
    sums = [0] * told.ingredients
    for number, pair in zip(row, told.pairs):
        for i, change in enumerate(differences(told.k, pair, n)):
            sums[i] += number * change
    return sums == [power(told.k, e) * change for change in differences(told.k, (one, other), n)]


def differences(k, pair, n):
    """Those of the shares of two mixtures, times k ** n."""
    return [ahead - behind for ahead, behind in zip(counts_at(k, pair[0], n), counts_at(k, pair[1], n))]
