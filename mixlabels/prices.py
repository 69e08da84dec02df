"""Prices of vats: what blending gains and loses."""

from mixlabels.errors import InvalidPrices, Refused
from mixlabels.insides import inside_rows
from mixlabels.tables import blend_label
from mixlabels.things import is_integer, is_sequence, tuples_below


def checked_prices(table, prices):
    if not is_sequence(prices):
        raise InvalidPrices(table.labels)
    for at, price in enumerate(prices):
        if not is_integer(price):
            raise InvalidPrices(at)
    if len(prices) != table.labels:
        raise InvalidPrices(table.labels)
    return tuple(prices)


def surplus(table, prices, cups):
    """By how much k times the price of the blend is above the prices of the cups."""
    return table.k * prices[blend_label(table, cups)] - sum([prices[cup] for cup in cups])


def gain(table, prices):
    checked = checked_prices(table, prices)
    for cups in tuples_below(table.labels, table.k):
        if surplus(table, checked, cups) > 0:
            return cups
    return None


def loss(table, prices):
    checked = checked_prices(table, prices)
    for cups in tuples_below(table.labels, table.k):
        if surplus(table, checked, cups) < 0:
            return cups
    return None


def excess(table, prices):
    checked = checked_prices(table, prices)
    rows = inside_rows(table)
    for a in range(table.labels):
        for b in rows[a]:
            if checked[a] > checked[b]:
                return a, b
    return None


def circle(table, a, b):
    found = [a]
    after = blend_label(table, (a,) + (b,) * (table.k - 1))
    while after not in found:
        found.append(after)
        after = blend_label(table, (after,) + (b,) * (table.k - 1))
    if after != a:
        raise Refused(found.index(after))
    return tuple(found)
