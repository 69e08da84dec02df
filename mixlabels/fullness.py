"""Full recipes: which labels they have, and how many of them have each label."""

from mixlabels.arithmetic import is_power_above
from mixlabels.errors import Refused
from mixlabels.recipes import MOST_INGREDIENTS
from mixlabels.tables import blend_label
from mixlabels.things import tuples_below, tuples_of


def full_labels(table, naming, depth):
    lots, start = course(table, naming)
    if depth < len(lots):
        return lots[depth]
    return lots[start + (depth - start) % (len(lots) - start)]


def course(table, naming):
    here = tuple(sorted(set(naming)))
    lots = []
    places = {}
    while here not in places:
        places[here] = len(lots)
        lots.append(here)
        here = tuple(sorted(set([blend_label(table, cups) for cups in tuples_of(here, table.k)])))
    return tuple(lots), places[here]


def full_counts(table, naming, depth):
    if is_power_above(table.k, depth, MOST_INGREDIENTS):
        raise Refused(depth)
    return tuple(counts_deep(table, naming, depth)[depth])


def counts_deep(table, naming, depth):
    """For each depth up to this one the numbers of full recipes with each label."""
    found = [name_counts(table, naming)]
    products = products_of(table)
    for _ in range(depth):
        found.append(blended_counts(table, products, found[-1]))
    return found


def name_counts(table, naming):
    """How many ingredients have each label."""
    return [list(naming).count(label) for label in range(table.labels)]


def products_of(table):
    """For each lot of k cups how often they come to each label, in all their orders."""
    found = {}
    for cups in tuples_below(table.labels, table.k):
        results = found.setdefault(tuple(sorted(cups)), {})
        label = blend_label(table, cups)
        results[label] = results.get(label, 0) + 1
    return found


def blended_counts(table, products, counts):
    found = [0] * table.labels
    for cups, results in products.items():
        ways = 1
        for cup in cups:
            ways = ways * counts[cup]
        if ways > 0:
            for label, many in results.items():
                found[label] += ways * many
    return found


def counts_modulo(table, naming, depth, modulus):
    counts = [many % modulus for many in name_counts(table, naming)]
    products = products_of(table)
    for _ in range(depth):
        counts = [many % modulus for many in blended_counts(table, products, counts)]
    return tuple(counts)


def far_counts(table, naming, depth):
    for at, cups in enumerate(tuples_below(table.labels, table.k)):
        if blend_label(table, cups) != blend_label(table, cups[1:] + cups[:1]):
            raise Refused(at)
    prime = 2 if table.k == 4 else table.k
    after = [blend_label(table, (label,) * table.k) for label in range(table.labels)]
    leads = list(range(table.labels))
    left = depth
    while left > 0:
        if left % 2 == 1:
            leads = [after[label] for label in leads]
        after = [after[label] for label in after]
        left = left // 2
    counts = [0] * table.labels
    for label in naming:
        counts[leads[label]] += 1
    return tuple([many % prime for many in counts])
