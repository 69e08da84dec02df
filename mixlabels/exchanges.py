"""Exchanges of a part of a mixture for one that is told to be alike, and passages of them."""

from mixlabels.arithmetic import power
from mixlabels.errors import Refused
from mixlabels.following import multipliers
from mixlabels.likenesses import is_within
from mixlabels.mixtures import contained, counts_at, made_mixture
from mixlabels.things import is_below, is_number, is_tuple

DEEPEST_EXCHANGE = 1000
MOST_TIMES = (10 ** 60) ** 5


def is_exchange(told, value):
    if not is_tuple(value, 4):
        return False
    at, way, deep, times = value
    if not is_below(at, len(told)) or not is_below(way, 2):
        return False
    return is_below(deep, DEEPEST_EXCHANGE + 1) and is_number(times) and 1 <= times <= MOST_TIMES


def needed_depth(told, exchanges):
    """An n for which k ** n times all that the exchanges move are integers."""
    least = 0
    for at, _, deep, _ in exchanges:
        least = max(least, deep + max([n for n, _ in told.pairs[at]]))
    return least


def after_exchanges(told, amounts, n, exchanges):
    """The shares times k ** n behind the exchanges, or None if one of them cannot be made."""
    here = list(amounts)
    for at, way, deep, times in exchanges:
        taken = counts_at(told.k, told.pairs[at][way], n - deep)
        put = counts_at(told.k, told.pairs[at][1 - way], n - deep)
        for i in range(told.ingredients):
            change = put[i] - taken[i]
            # What is there changes evenly, so that it is least the first or the last time.
            if min(here[i], here[i] + (times - 1) * change) < taken[i]:
                return None
            here[i] += times * change
    return here


def exchanged(told, mixture, exchange):
    if not is_exchange(told, exchange):
        raise Refused(0)
    n = max(mixture[0], needed_depth(told, [exchange]))
    found = after_exchanges(told, counts_at(told.k, mixture, n), n, [exchange])
    if found is None:
        raise Refused(0)
    return made_mixture(told.k, n, found)


def passage(told, one, other):
    head, start = spread_out(told, one)
    ahead, end = spread_out(told, other)
    tail = tuple([(at, 1 - way, deep, times) for at, way, deep, times in reversed(ahead)])
    e, row = multipliers(told, start, end)
    total = sum([abs(number) for number in row])
    # All that a round takes is not more than what is there of each ingredient.
    deep = e
    fine = max(start[0], end[0])
    while power(told.k, deep) < total * power(told.k, fine):
        deep += 1
    turn = [(at, 0 if number > 0 else 1, deep, abs(number)) for at, number in enumerate(row) if number != 0]
    return tuple(head), power(told.k, deep - e), tuple(turn), tail


def spread_out(told, mixture):
    """Exchanges that bring some of each ingredient of the sealing in, and the mixture behind them."""
    here = mixture
    exchanges = []
    step = bringing(told, here)
    while step is not None:
        exchanges.append(step)
        here = exchanged(told, here, step)
        step = bringing(told, here)
    return exchanges, here


def bringing(told, mixture):
    """A small exchange that brings an ingredient in and uses none up, or None."""
    some = contained(mixture)
    for at, pair in enumerate(told.pairs):
        for way in (0, 1):
            if is_within(pair[way], some) and not is_within(pair[1 - way], some):
                return at, way, mixture[0] + 1, 1
    return None


def is_passage(told, one, other, value):
    if not is_tuple(value, 4) or not is_number(value[1]) or value[1] > MOST_TIMES:
        return False
    head, rounds, turn, tail = value
    for part in (head, turn, tail):
        if not isinstance(part, tuple) or not all([is_exchange(told, exchange) for exchange in part]):
            return False
    n = max(one[0], other[0], needed_depth(told, head + turn + tail))
    here = after_exchanges(told, counts_at(told.k, one, n), n, head)
    if here is not None:
        here = after_rounds(told, here, n, turn, rounds)
    if here is not None:
        here = after_exchanges(told, here, n, tail)
    return here is not None and tuple(here) == counts_at(told.k, other, n)


def after_rounds(told, amounts, n, turn, rounds):
    """The shares times k ** n behind so many turns, or None if one of them cannot be made."""
    if rounds == 0:
        return amounts
    first = after_exchanges(told, amounts, n, turn)
    if first is None:
        return None
    # What is there changes evenly from round to round.
    last = [amount + (rounds - 1) * (behind - amount) for amount, behind in zip(amounts, first)]
    return after_exchanges(told, last, n, turn)
