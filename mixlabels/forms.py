"""Forms: what a faithful table comes to, whatever its labels are called."""

from math import gcd

from mixlabels.errors import InvalidForm, InvalidNaming
from mixlabels.lifting import joins_of, lifted
from mixlabels.recipes import checked_bowl
from mixlabels.tables import MOST_LABELS, Table, blend_label, fits
from mixlabels.things import are_below, is_below, is_sequence, tuples_below
from mixlabels.wheels import check_faithful, modulus_of, sum_of, wheel_rows


class Form:
    """A sum table for each wheel, the joins of the wheels, and the maps between them."""

    def __init__(self, k, sums, joins, maps):
        checked_bowl(k)
        if not are_sums(k, sums):
            raise InvalidForm(0)
        if not are_joins(joins, len(sums)):
            raise InvalidForm(1)
        if not are_maps(maps, sums, joins):
            raise InvalidForm(2)
        self.k = k
        self.labels = sum([len(rows) for rows in sums])
        self.sums = tuple([as_tuples(rows) for rows in sums])
        self.joins = as_tuples(joins)
        self.maps = tuple([tuple([None if row is None else tuple(row) for row in rows]) for rows in maps])

    def __eq__(self, other):
        if not isinstance(other, Form) or self.k != other.k or self.sums != other.sums:
            return False
        return self.joins == other.joins and self.maps == other.maps


def as_tuples(rows):
    return tuple([tuple(row) for row in rows])


def is_square(value, size):
    """Whether any value is a sequence of so many sequences of so many numbers, all below the size."""
    if not is_sequence(value) or len(value) != size:
        return False
    return all([is_sequence(row) and len(row) == size and are_below(row, size) for row in value])


def is_commutative(rows):
    return all([rows[a][b] == rows[b][a] for a in range(len(rows)) for b in range(a)])


def is_associative(rows):
    many = len(rows)
    return all([
        rows[rows[a][b]][c] == rows[a][rows[b][c]]
        for a in range(many) for b in range(many) for c in range(many)
    ])


def are_sums(k, value):
    if not is_sequence(value):
        return False
    if not all([is_sum_table(rows) and gcd(len(rows), k) == 1 for rows in value]):
        return False
    return fits(k, sum([len(rows) for rows in value]))


def is_sum_table(value):
    if not is_sequence(value) or not 1 <= len(value) <= MOST_LABELS or not is_square(value, len(value)):
        return False
    if tuple(value[0]) != tuple(range(len(value))) or not all([0 in row for row in value]):
        return False
    return is_commutative(value) and is_associative(value)


def are_joins(value, many):
    if not is_square(value, many) or any([value[v][v] != v for v in range(many)]):
        return False
    return is_commutative(value) and is_associative(value)


def are_maps(value, sums, joins):
    many = len(sums)
    if not is_sequence(value) or len(value) != many:
        return False
    if not all([is_sequence(rows) and len(rows) == many for rows in value]):
        return False
    for v in range(many):
        for w in range(many):
            if not is_entry(value[v][w], sums[v], sums[w], joins[v][w] == w):
                return False
        if tuple(value[v][v]) != tuple(range(len(sums[v]))):
            return False
    return go_together(value)


def is_entry(value, low, high, is_above):
    """Whether any value is an entry for two wheels with these sums."""
    if not is_above:
        return value is None
    if not is_sequence(value) or len(value) != len(low) or not are_below(value, len(high)):
        return False
    for a in range(len(low)):
        for b in range(len(low)):
            if high[value[a]][value[b]] != high[value[0]][value[low[a][b]]]:
                return False
    return True


def go_together(maps):
    """Whether two maps, one after another, are always the map from the first wheel to the last one."""
    for v in range(len(maps)):
        for w in range(len(maps)):
            for u in range(len(maps)):
                if maps[v][w] is not None and maps[w][u] is not None:
                    if any([maps[w][u][b] != maps[v][u][a] for a, b in enumerate(maps[v][w])]):
                        return False
    return True


def form_of(table):
    check_faithful(table)
    rows = wheel_rows(table)
    joins = joins_of(table, rows)
    modulus = modulus_of(table)
    maps = []
    for v in range(len(rows)):
        maps.append([
            map_between(table, modulus, rows[v], rows[w]) if joins[v][w] == w else None
            for w in range(len(rows))
        ])
    return Form(table.k, [sums_of(table, wheel) for wheel in rows], joins, maps)


def sums_of(table, wheel):
    return [[wheel.index(sum_of(table, wheel, wheel[0], a, b)) for b in wheel] for a in wheel]


def map_between(table, modulus, low, high):
    return [high.index(lifted(table, modulus, a, high[0])) for a in low]


def form_table(form):
    numbers = [(w, x) for w in range(len(form.sums)) for x in range(len(form.sums[w]))]
    parts = [parts_of_sums(form.k, rows) for rows in form.sums]
    results = []
    for cups in tuples_below(form.labels, form.k):
        places = [numbers[cup] for cup in cups]
        top = places[0][0]
        for v, _ in places:
            top = form.joins[top][v]
        total = 0
        for v, x in places:
            total = form.sums[top][total][form.maps[v][top][x]]
        results.append(numbers.index((top, parts[top][total])))
    return Table(form.k, form.labels, results)


def parts_of_sums(k, rows):
    """For each number of a wheel the one that comes to it k times."""
    found = {}
    for x in range(len(rows)):
        total = 0
        for _ in range(k):
            total = rows[total][x]
        found[total] = x
    return found


def renamed(table, names):
    check_names(table.labels, names)
    # The label that is called so, for each name.
    labels = [list(names).index(name) for name in range(table.labels)]
    results = []
    for cups in tuples_below(table.labels, table.k):
        results.append(names[blend_label(table, [labels[cup] for cup in cups])])
    return Table(table.k, table.labels, results)


def check_names(labels, names):
    if not is_sequence(names):
        raise InvalidNaming(labels)
    for at, name in enumerate(names):
        if not is_below(name, labels) or name in names[:at]:
            raise InvalidNaming(at)
    if len(names) < labels:
        raise InvalidNaming(labels)
