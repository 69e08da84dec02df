"""Tables that wear evenly: recipes with the same leaves have the same label."""

from mixlabels.errors import InvalidTable, Refused
from mixlabels.faults import are_cups, breaks_order, is_order_fault
from mixlabels.leaves import leaves
from mixlabels.tables import Table, blend_label, fits
from mixlabels.things import are_below, is_tuple, tuples_below


def worn_fault(table):
    for cups in tuples_below(table.labels, table.k):
        for i in range(table.k - 1):
            if breaks_order(table, cups, i):
                return "order", cups, i
    return wrong_exchange(table)


def wrong_exchange(table):
    """An exchange that changes the label, in a table in which the order of cups does not matter; None without one."""
    many = table.labels
    rests = ascending_only(tuples_below(many, table.k - 2))
    others = ascending_only(tuples_below(many, table.k - 1))
    # For each two labels the blends beside all rests, and for each label the blends beside all others.
    beside = [[[blend_label(table, (p, q) + rest) for rest in rests] for q in range(many)] for p in range(many)]
    blends = [[blend_label(table, (a,) + some) for some in others] for a in range(many)]
    pairs = tuples_below(len(others), 2)
    for a, b in tuples_below(many, 2):
        for s, t in pairs:
            before = beside[blends[a][s]][blends[b][t]]
            behind = beside[blends[b][s]][blends[a][t]]
            if before != behind:
                at = [one != other for one, other in zip(before, behind)].index(True)
                return "exchange", (a,) + others[s], (b,) + others[t], rests[at]
    return None


def ascending_only(rows):
    return [row for row in rows if row == tuple(sorted(row))]


def is_worn_fault(table, value):
    if is_tuple(value, 3) and value[0] == "order":
        return is_order_fault(table, value[1], value[2])
    if not is_tuple(value, 4) or value[0] != "exchange":
        return False
    _, one, other, rest = value
    if not are_cups(table, one) or not are_cups(table, other):
        return False
    if not is_tuple(rest, table.k - 2) or not are_below(rest, table.labels):
        return False
    before = blend_label(table, (blend_label(table, one), blend_label(table, other)) + rest)
    changed = [blend_label(table, other[:1] + one[1:]), blend_label(table, one[:1] + other[1:])]
    return before != blend_label(table, tuple(changed) + rest)


def shift_table(k, sums, shift):
    many = len(sums)
    if not fits(k, many):
        raise InvalidTable(0)
    if not all([adds_well(sums, a) for a in range(many)]):
        raise Refused(0)
    if any([shift[sums[a][b]] != sums[shift[a]][shift[b]] for a in range(many) for b in range(many)]):
        raise Refused(1)
    results = []
    for cups in tuples_below(many, k):
        total = cups[0]
        for cup in cups[1:]:
            total = sums[total][cup]
        results.append(shift[total])
    return Table(k, many, results)


def adds_well(sums, a):
    """Whether neither order nor grouping matters in sums with this label."""
    for b in range(len(sums)):
        if sums[a][b] != sums[b][a]:
            return False
        if any([sums[sums[a][b]][c] != sums[a][sums[b][c]] for c in range(len(sums))]):
            return False
    return True


def leaves_apart(ingredients, one, other):
    pairs = leaves(one)
    others = leaves(other)
    if pairs == others:
        return None
    deepest = max(pairs[-1][0], others[-1][0])
    rows = []
    for i in range(ingredients):
        rows.append([pairs.count((deep, i)) - others.count((deep, i)) for deep in range(deepest + 1)])
    n = 2
    while True:
        for c in range(n):
            for i, row in enumerate(rows):
                if weighed_depths(row, c, n) != 0:
                    return n, c, i
        n += 1


def weighed_depths(row, c, n):
    """The sum of all numbers times c ** depth, modulo n."""
    total = 0
    for many in reversed(row):
        total = (total * c + many) % n
    return total
