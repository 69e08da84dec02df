"""Whether the greatest worth of a stock is reached, or only neared."""

from mixlabels.bars import Opening, has_cup, is_bar
from mixlabels.costs import whole
from mixlabels.prices import checked_prices
from mixlabels.programs import Program
from mixlabels.ratios import added, compared, less, times
from mixlabels.tables import blend_label
from mixlabels.things import is_tuple
from mixlabels.trades import after, checked_stock, is_trade, moved
from mixlabels.worth import is_worth, min_amount, rounds_for, taken, worth, worth_of


def reach(table, stock, prices):
    amounts = checked_stock(table, stock)
    checked = checked_prices(table, prices)
    triple = worth(table, stock, checked)
    opening = Opening(table, amounts, checked, triple[2])
    bar = []
    flow = None
    while flow is None:
        step = closing_step(opening)
        if step is None:
            flow, step = flow_or_scale(opening)
        if step is not None:
            bar.append(step)
            if opening.is_last(step):
                return "neared", triple, tuple(bar)
            opening.take(step)
    return "reached", triple, trade_of(table, amounts, flow)


def closing_step(opening):
    """A step of labels that closes something, or is the last one; None if there is none."""
    table = opening.table
    never = [good for good in opening.goods if good not in coming(opening)]
    if any([end in never for end in opening.ends]) or any([has_cup(cups, never) for cups in opening.lots]):
        return "never", tuple(never)
    stuck = [good for good in opening.goods if good not in leaving(opening)]
    step = ("stuck", tuple(stuck))
    if opening.is_last(step) or any([blend_label(table, cups) in stuck for cups in opening.lots]):
        return step
    return None


def coming(opening):
    """The goods that open throws can make out of the stock."""
    known = [good for good in opening.goods if opening.held[good] > 0]
    before = -1
    while before < len(known):
        before = len(known)
        for cups in opening.lots:
            label = blend_label(opening.table, cups)
            if label not in known and all([cup in known for cup in cups]):
                known.append(label)
    return known


def leaving(opening):
    """The goods out of which, perhaps with others, open throws can make ends."""
    known = list(opening.ends)
    before = -1
    while before < len(known):
        before = len(known)
        for cups in opening.lots:
            if blend_label(opening.table, cups) in known:
                known.extend([good for good in sorted(set(cups)) if good not in known])
    return known


def flow_or_scale(opening):
    """Amounts above 0 of all open throws that lead from the stock to ends alone, or a step that closes some."""
    lots = open_lots(opening)
    table, goods = opening.table, opening.goods
    inner = [i for i, good in enumerate(goods) if good not in opening.ends]
    columns = [both_ways(taken(table, goods, cups), inner) for cups in lots]
    columns.append(both_ways([-opening.held[good] for good in goods], inner))
    # One more of each throw, of the stock and of each end.
    one_more = [sum([column[i] for column in columns]) for i in range(len(goods) + len(inner) + 1)]
    for i in range(len(goods)):
        if i not in inner:
            one_more[i] += 1
    one_more[-1] = 1
    program = Program(columns + [one_more], [0] * len(columns) + [1], [0] * (len(one_more) - 1) + [1])
    found = [(0, 1)] * (len(columns) + 1)
    for t, amount in program.amounts():
        if t <= len(columns):
            found[t] = amount
    if found[-1] == (1, 1):
        many = added(found[-2], (1, 1))
        return [(cups, times(added(amount, (1, 1)), (many[1], many[0]))) for cups, amount in zip(lots, found)], None
    return None, scale_step(table, goods, inner, program.worths())


def open_lots(opening):
    """Of all open k-tuples that take and bring the same the first one, but for those that change nothing."""
    found = {}
    for cups in opening.lots:
        change = tuple(taken(opening.table, opening.goods, cups))
        if any([value != 0 for value in change]):
            found.setdefault(change, cups)
    return list(found.values())


def both_ways(row, inner):
    """What is taken of each good and, of those that may not be left over, what is brought."""
    return row + [-row[i] for i in inner] + [0]


def scale_step(table, goods, inner, worths):
    numbers = [(0, 1)] * table.labels
    for i, good in enumerate(goods):
        numbers[good] = worths[i]
        if i in inner:
            numbers[good] = less(worths[i], worths[len(goods) + inner.index(i)])
    return "scale", tuple(whole(numbers)[0])


def trade_of(table, amounts, flow):
    """A trade with the effect of a flow whose labels can all be made out of the stock, and lead to what it leaves."""
    first, start = marked_from(table, amounts, flow)
    last, end = marked_back(table, moved(table, amounts, flow, 1), flow)
    left = flow
    for throws in (first, last):
        done = [(cups, [amount for some, amount in throws if some == cups]) for cups, _ in flow]
        left = [(cups, less(amount, gone[0]) if gone else amount) for (cups, amount), (_, gone) in zip(left, done)]
    ready = [min_amount([one, other]) for one, other in zip(start, end)]
    many = rounds_for(ready, left)
    again = [(cups, times((1, many), amount)) for cups, amount in left]
    return tuple(first), many if again else 0, tuple(again), tuple(last)


def part_of(table, amount, least):
    """At most a third of a throw, and so little that no label is used up."""
    part = times(amount, (1, 3))
    small = times(least, (1, 2 * table.k))
    return part if compared(part, small) < 0 else small


def marked_from(table, amounts, flow):
    """Throws of the flow that bring some of each label that it moves, and what is there then."""
    have = amounts
    throws = []
    before = -1
    while before < len(throws):
        before = len(throws)
        for cups, amount in flow:
            least = min_amount([have[cup] for cup in cups])
            if least[0] > 0 and have[blend_label(table, cups)][0] == 0:
                throws.append((cups, part_of(table, amount, least)))
                have = moved(table, have, throws[-1:], 1)
    return throws, have


def marked_back(table, amounts, flow):
    """The last throws, ahead of which some of each label is there, and what is there then."""
    have = amounts
    throws = []
    before = -1
    while before < len(throws):
        before = len(throws)
        for cups, amount in flow:
            least = have[blend_label(table, cups)]
            if least[0] > 0 and any([have[cup][0] == 0 for cup in cups]):
                throws = [(cups, part_of(table, amount, least))] + throws
                have = moved(table, have, throws[:1], -1)
    return throws, have


def is_reach(table, stock, prices, value):
    amounts = checked_stock(table, stock)
    checked = checked_prices(table, prices)
    if not is_tuple(value, 3) or not is_worth(table, stock, checked, value[1]):
        return False
    word, triple, told = value
    if word == "reached":
        return is_trade(table, stock, told) and worth_of(after(table, stock, told), checked) == triple[0]
    return word == "neared" and is_bar(Opening(table, amounts, checked, triple[2]), told)
