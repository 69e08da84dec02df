"""Trades: throws of cups, some of them repeated very often."""

from mixlabels.errors import InvalidQuestion
from mixlabels.ratios import added, is_fraction, times
from mixlabels.tables import blend_label
from mixlabels.things import are_below, first_no_number, is_number, is_sequence, is_tuple


def checked_stock(table, stock):
    """The amounts that a stock is, as fractions."""
    if not is_sequence(stock):
        raise InvalidQuestion(table.labels)
    wrong = first_no_number(stock)
    if wrong is not None:
        raise InvalidQuestion(wrong)
    if len(stock) != table.labels:
        raise InvalidQuestion(table.labels)
    return [(many, 1) for many in stock]


def is_trade(table, stock, value):
    amounts = checked_stock(table, stock)
    if not is_tuple(value, 4) or not is_number(value[1]):
        return False
    first, many, again, last = value
    if not all([are_throws(table, throws) for throws in (first, again, last)]):
        return False
    if not can_throw(table, amounts, first):
        return False
    amounts = moved(table, amounts, first, 1)
    # What is there changes evenly from one time to the next, so that it is least the first or the last time.
    starts = [moved(table, amounts, again, times_ahead) for times_ahead in (0, many - 1)]
    if many > 0 and not all([can_throw(table, start, again) for start in starts]):
        return False
    return can_throw(table, moved(table, amounts, again, many), last)


def are_throws(table, value):
    return isinstance(value, tuple) and all([is_throw(table, throw) for throw in value])


def is_throw(table, value):
    if not is_tuple(value, 2) or not is_tuple(value[0], table.k) or not are_below(value[0], table.labels):
        return False
    return is_fraction(value[1]) and value[1][0] > 0


def can_throw(table, amounts, throws):
    """Whether the throws can be done, one after another."""
    left = list(amounts)
    for cups, amount in throws:
        for cup in cups:
            left[cup] = added(left[cup], times((-1, 1), amount))
        if any([left[cup][0] < 0 for cup in cups]):
            return False
        label = blend_label(table, cups)
        left[label] = added(left[label], times((table.k, 1), amount))
    return True


def moved(table, amounts, throws, many):
    """The amounts after so many times these throws."""
    found = list(amounts)
    for cups, amount in throws:
        change = times((many, 1), amount)
        for cup in cups:
            found[cup] = added(found[cup], times((-1, 1), change))
        label = blend_label(table, cups)
        found[label] = added(found[label], times((table.k, 1), change))
    return found


def after(table, stock, trade):
    amounts = checked_stock(table, stock)
    first, many, again, last = trade
    for throws, often in ((first, 1), (again, many), (last, 1)):
        amounts = moved(table, amounts, throws, often)
    return tuple(amounts)
