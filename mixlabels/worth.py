"""The greatest worth that the vats of a stock can be brought near to."""

from mixlabels.closed import spread
from mixlabels.costs import extra, whole
from mixlabels.prices import checked_prices, surplus
from mixlabels.programs import Program
from mixlabels.ratios import added, compared, is_fraction, less, made, times
from mixlabels.tables import blend_label
from mixlabels.things import is_ascending, is_tuple, tuples_of
from mixlabels.trades import checked_stock, is_throw, moved


def worth(table, stock, prices):
    amounts = checked_stock(table, stock)
    checked = checked_prices(table, prices)
    goods = goods_of(table, amounts)
    lots = unlike_lots(table, goods)
    columns = [taken(table, goods, cups) for cups in lots]
    gains = [surplus(table, checked, cups) for cups in lots]
    program = Program(columns, gains, [amounts[good][0] for good in goods])
    flow = sorted([(lots[t], amount) for t, amount in program.amounts() if t < len(lots)])
    limits = [None] * table.labels
    for good, more in zip(goods, program.worths()):
        limits[good] = added((checked[good], 1), more)
    return worth_of(moved(table, amounts, flow, 1), checked), tuple(flow), tuple(limits)


def goods_of(table, amounts):
    return spread(table, [label for label, amount in enumerate(amounts) if amount[0] > 0])


def unlike_lots(table, goods):
    """Of all k-tuples of goods that take the same and bring the same the first ones."""
    found = {}
    for cups in tuples_of(goods, table.k):
        found.setdefault(tuple(taken(table, goods, cups)), cups)
    return list(found.values())


def taken(table, goods, cups):
    """How much of each good is less there after a throw with the amount 1."""
    label = blend_label(table, cups)
    return [cups.count(good) - (table.k if good == label else 0) for good in goods]


def worth_of(amounts, prices):
    total = (0, 1)
    for amount, price in zip(amounts, prices):
        total = added(total, times(amount, (price, 1)))
    return total


def is_worth(table, stock, prices, value):
    amounts = checked_stock(table, stock)
    checked = checked_prices(table, prices)
    if not is_tuple(value, 3) or not is_fraction(value[0]):
        return False
    total, flow, limits = value
    goods = goods_of(table, amounts)
    if not is_flow(table, goods, flow) or not are_limits(table, checked, goods, limits):
        return False
    behind = moved(table, amounts, flow, 1)
    if any([amount[0] < 0 for amount in behind]) or worth_of(behind, checked) != total:
        return False
    by_limits = (0, 1)
    for good in goods:
        by_limits = added(by_limits, times(amounts[good], limits[good]))
    return by_limits == total


def is_flow(table, goods, value):
    if not isinstance(value, tuple) or not all([is_throw(table, throw) for throw in value]):
        return False
    if not all([cup in goods for cups, _ in value for cup in cups]):
        return False
    return is_ascending([cups for cups, _ in value])


def are_limits(table, prices, goods, value):
    if not is_tuple(value, table.labels):
        return False
    if any([value[label] is not None for label in range(table.labels) if label not in goods]):
        return False
    if any([not is_fraction(value[good]) or compared(value[good], (prices[good], 1)) < 0 for good in goods]):
        return False
    numbers = whole([(0, 1) if limit is None else limit for limit in value])[0]
    return all([extra(table, numbers, cups) >= 0 for cups in tuples_of(goods, table.k)])


def near_trade(table, stock, prices, gap):
    amounts = checked_stock(table, stock)
    checked = checked_prices(table, prices)
    value, flow, _ = worth(table, stock, checked)
    if len(flow) == 0:
        return (), 0, (), ()
    part = part_for(amounts, checked, value, gap)
    first, ready = throws_for_all(table, amounts, part)
    kept = less((1, 1), part)
    flow_kept = [(cups, times(kept, amount)) for cups, amount in flow]
    many = rounds_for(ready, flow_kept)
    return first, many, tuple([(cups, times((1, many), amount)) for cups, amount in flow_kept]), ()


def part_for(amounts, prices, value, gap):
    """A part of the stock, at most half of it, that is worth no more than the gap, whatever becomes of it."""
    total = (1, 1)
    for amount in amounts:
        total = added(total, times(amount, (max([abs(price) for price in prices]), 1)))
    total = added(total, (abs(value[0]), value[1]))
    part = made(gap[0] * total[1], gap[1] * total[0])
    return part if compared(part, (1, 2)) < 0 else (1, 2)


def throws_for_all(table, amounts, part):
    """Throws that make some of each good out of a part of the stock, and how much of each is there then."""
    have = [times(part, amount) for amount in amounts]
    goods = goods_of(table, amounts)
    throws = []
    for _ in goods:
        known = [label for label in goods if have[label][0] > 0]
        for cups in tuples_of(known, table.k):
            if have[blend_label(table, cups)][0] == 0:
                # No label is used up: k cups take half of the least amount at most.
                least = min_amount([have[cup] for cup in cups])
                throws.append((cups, times(least, (1, 2 * table.k))))
                have = moved(table, have, throws[-1:], 1)
    return tuple(throws), have


def min_amount(amounts):
    found = amounts[0]
    for amount in amounts:
        if compared(amount, found) < 0:
            found = amount
    return found


def rounds_for(ready, flow):
    """In how many rounds the flow is to be done so that each takes no more than what is ready."""
    many = 1
    for label, amount in enumerate(ready):
        need = (0, 1)
        for cups, often in flow:
            need = added(need, times((cups.count(label), 1), often))
        if need[0] > 0:
            top, bottom = times(need, (amount[1], amount[0]))
            many = max(many, (top + bottom - 1) // bottom)
    return many
