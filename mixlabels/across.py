"""Labels of mixed recipes, and whether the tables of a rack go together."""

from mixlabels.errors import InvalidMixture, NotFaithful
from mixlabels.faults import fault, is_fault
from mixlabels.lifting import label_by_case
from mixlabels.mixed import checked_mixed, is_shares, share_remainders
from mixlabels.tables import blend_label
from mixlabels.tasting import checked_naming
from mixlabels.things import are_below, is_below, is_tuple, tuples_below
from mixlabels.wheels import modulus_of


def mixed_label(rack, naming, recipe):
    names = checked_naming(rack, naming)
    checked_mixed(rack.sizes, len(names), recipe)
    return mixed_taste(rack, names, recipe)


def mixed_taste(rack, names, recipe):
    """The label of a mixed recipe that is known to be one."""
    if not isinstance(recipe, tuple):
        return names[recipe]
    table = rack.tables[rack.sizes.index(len(recipe))]
    return blend_label(table, [mixed_taste(rack, names, cup) for cup in recipe])


def rack_fault(rack):
    for i, table in enumerate(rack.tables):
        wrong = fault(table)
        if wrong is not None:
            return i, wrong
    for i in range(1, len(rack.tables)):
        rows = rows_across(rack.tables[0], rack.tables[i])
        if rows is not None:
            return i, ("across", rows)
    return None


def rows_across(one, other):
    """Rows whose blends, by the second table, have another blend than those of their columns, or None."""
    # In a faithful table a set of tuples of labels is closed if the blends of three of them, the last one as often
    # as needed, are in it; and the order of the rows does not matter.
    lots = tuples_below(one.labels, one.k)
    threes = blends_of_three(other)
    for c in lots:
        if is_rising(c):
            last = threes[blend_label(one, c)]
            for a in lots:
                beside = [threes[z][x] for x, z in zip(a, c)]
                goals = last[blend_label(one, a)]
                for b in lots:
                    rows = [row[y] for row, y in zip(beside, b)]
                    if blend_label(one, rows) != goals[blend_label(one, b)]:
                        return tuple([(x, y) + (z,) * (other.k - 2) for x, y, z in zip(a, b, c)])
    return None


def is_rising(cups):
    return all([cups[at] <= cups[at + 1] for at in range(len(cups) - 1)])


def blends_of_three(table):
    """For each z, x, y the blend of x, y and as many cups z as are left."""
    labels = list(range(table.labels))
    rest = table.k - 2
    return [[[blend_label(table, (x, y) + (z,) * rest) for y in labels] for x in labels] for z in labels]


def is_rack_fault(rack, value):
    if not is_tuple(value, 2) or not is_below(value[0], len(rack.tables)):
        return False
    i, wrong = value
    if is_fault(rack.tables[i], wrong):
        return True
    if i == 0 or not is_tuple(wrong, 2) or wrong[0] != "across":
        return False
    return is_across(rack.tables[0], rack.tables[i], wrong[1])


def is_across(one, other, rows):
    if not is_tuple(rows, one.k) or not all([is_tuple(row, other.k) and are_below(row, one.labels) for row in rows]):
        return False
    by_rows = blend_label(one, [blend_label(other, row) for row in rows])
    return by_rows != blend_label(other, [blend_label(one, column) for column in columns_of(rows)])


def columns_of(rows):
    return [tuple([row[at] for row in rows]) for at in range(len(rows[0]))]


def shares_label(rack, naming, shares):
    wrong = rack_fault(rack)
    if wrong is not None:
        raise NotFaithful(wrong[0])
    names = checked_naming(rack, naming)
    if not is_shares(rack.sizes, shares) or len(shares) != len(names):
        raise InvalidMixture(0)
    table = rack.tables[0]
    modulus = modulus_of(table)
    some = tuple([i for i, share in enumerate(shares) if share[0] != 0])
    return label_by_case(table, names, modulus, (some, share_remainders(shares, modulus)))
