"""Faithful tables of many kinds."""

import functools
import itertools
import math

from mixlabels.combining import image_table, join_table, mean_table, pair_table, part_table
from mixlabels.forms import Form, form_table, renamed
from mixlabels.standard import standard_table
from mixlabels.tables import Table
from tests.helpers import first_table, least_table, most_labels


def cyclic(size):
    return [[(a + b) % size for b in range(size)] for a in range(size)]


def chain_form(k, sizes, maps):
    """Wheels one above another; maps are pairs (slope, start) that lead from each to the next one."""
    many = len(sizes)
    joins = [[max(v, w) for w in range(many)] for v in range(many)]
    rows = []
    for v in range(many):
        row = [None] * v
        entry = list(range(sizes[v]))
        for w in range(v, many):
            row.append(list(entry))
            if w + 1 < many:
                slope, start = maps[w]
                entry = [(slope * x + start) % sizes[w + 1] for x in entry]
        rows.append(row)
    return Form(k, [cyclic(size) for size in sizes], joins, rows)


CHAINS = {
    2: [((9, 3), [(1, 2)]), ((3, 9), [(3, 4)]), ((3, 3, 3), [(2, 1), (1, 2)]), ((5, 5), [(3, 1)]), ((7, 5), [(0, 3)]),
        ((1, 11), [(0, 6)]), ((3, 1, 5), [(0, 0), (0, 4)])],
    3: [((4, 2), [(1, 1)]), ((2, 4), [(2, 3)]), ((2, 2, 2, 2), [(1, 1), (0, 1), (1, 0)]), ((4, 5), [(0, 2)]),
        ((1, 8), [(0, 5)])],
    4: [((3, 1), [(0, 0)]), ((1, 3), [(0, 2)]), ((1, 1, 3), [(0, 0), (0, 1)])],
    5: [((2, 1), [(0, 0)]), ((1, 2), [(0, 1)])],
}


def fork_form(k):
    """Two wheels of two numbers below a third one; k is odd."""
    joins = [[0, 2, 2], [2, 1, 2], [2, 2, 2]]
    maps = [[[0, 1], None, [1, 0]], [None, [0, 1], [1, 1]], [None, None, [0, 1]]]
    return Form(k, [cyclic(2)] * 3, joins, maps)


def klein_form(k):
    return Form(k, [[[a ^ b for b in range(4)] for a in range(4)]], [[0]], [[[0, 1, 2, 3]]])


def union_table(k, many):
    """The labels are all sets of so many things that are not empty; a blend has the union."""
    return join_table(k, [[((a + 1) | (b + 1)) - 1 for b in range(2 ** many - 1)] for a in range(2 ** many - 1)])


def star_table(k, labels):
    """Unlike labels come to label 0."""
    return join_table(k, [[a if a == b else 0 for b in range(labels)] for a in range(labels)])


@functools.lru_cache(None)
def faithful_tables(k):
    most = most_labels(k)
    sizes = [d for d in range(1, most + 1) if math.gcd(d, k) == 1]
    found = [least_table(k, labels) for labels in range(1, most + 1)]
    found += [mean_table(k, d) for d in sizes] + [star_table(k, labels) for labels in (2, 3, most)]
    found += [union_table(k, many) for many in (2, 3) if 2 ** many - 1 <= most]
    found += [pair_table(mean_table(k, d), least_table(k, n)) for d in sizes for n in (2, 3) if d * n <= most]
    found += [pair_table(mean_table(k, d), mean_table(k, e)) for d in sizes for e in sizes if 1 < d <= e <= most // d]
    for m, d in itertools.product(range(1, 5), range(1, 12)):
        if math.gcd(d, k) == 1 and ((1 + d) ** m - 1) // d <= most:
            found.append(standard_table(k, m, d))
    found += [form_table(chain_form(k, *told)) for told in CHAINS[k]]
    if k == 3:
        found += [form_table(fork_form(k)), form_table(klein_form(k))]
    return tuple(found)


def drawn_faithful(rnd, k):
    """A faithful table, perhaps a part or an image of another one, its labels called anew."""
    table = rnd.choice(faithful_tables(k))
    if rnd.random() < 0.3:
        table = part_table(table, [rnd.randrange(table.labels) for _ in range(rnd.randrange(1, 4))])
    if rnd.random() < 0.3:
        table = image_of(rnd, table)
    return called_anew(rnd, table)


def called_anew(rnd, table):
    return renamed(table, rnd.sample(range(table.labels), table.labels))


def image_of(rnd, table):
    """The image in which two labels are taken together, and all that has to be with them."""
    classes = list(range(table.labels))
    waiting = [tuple(rnd.randrange(table.labels) for _ in range(2))]
    while waiting:
        a, b = waiting.pop()
        if classes[a] != classes[b]:
            classes = [classes[a] if number == classes[b] else number for number in classes]
            for rest in itertools.product(range(table.labels), repeat=table.k - 1):
                for x, y in ((a, b), *((x, y) for x in range(table.labels) for y in range(x))):
                    if classes[x] == classes[y]:
                        waiting.append((table.blend((x,) + rest), table.blend((y,) + rest)))
    numbers = sorted(set(classes))
    return image_table(table, [numbers.index(number) for number in classes])


def unfaithful_tables(k):
    """A table that breaks each rule first, with the number that NotFaithful tells."""
    rows = [list(least_table(k, 3).results) for _ in range(3)]
    rows[0][-1] = 0
    found = [(Table(k, 3, rows[0]), 0), (first_table(k, 3), 1)]
    # The blend of unlike labels is the third one, whatever they are: but 0 and 2 give 0.
    results = []
    for cups in itertools.product(range(3), repeat=k):
        labels = set(cups)
        results.append(cups[0] if len(labels) == 1 else 0 if labels == {0, 2} else 2 if len(labels) == 2 else 1)
    return found + [(Table(k, 3, results), 2)]
