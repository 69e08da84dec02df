"""The third rule of faithful tables: blends of the rows and of the columns of a grid."""

from mixlabels.tables import blend_label
from mixlabels.things import tuples_below


def turned(rows):
    """The columns of a grid."""
    return tuple([tuple([row[at] for row in rows]) for at in range(len(rows))])


def grid_label(table, rows):
    return blend_label(table, [blend_label(table, row) for row in rows])


def breaks_grid(table, rows):
    return grid_label(table, rows) != grid_label(table, turned(rows))


def wrong_rows(table):
    """Some rows against the third rule, or None; the table is known to keep the other two."""
    # If order does not matter, the rule says that in the blend of two blends and of k - 2 more
    # cups a cup of the one may be exchanged for a cup of the other: far fewer cases than all grids.
    others = lots(table.labels, table.k - 1)
    tops = [[blend_label(table, (a,) + lot) for a in range(table.labels)] for lot in others]
    kinds = pair_kinds(table)
    for one in range(len(others)):
        for other in range(len(others)):
            found = wrong_exchange(tops[one], tops[other], kinds)
            if found is not None:
                return exchange_rows(table, (found[0],) + others[one], (found[1],) + others[other])
    return None


def lots(labels, many):
    """All tuples of so many labels that do not descend."""
    return [row for row in tuples_below(labels, many) if not_descending(row)]


def not_descending(row):
    return all([row[at] <= row[at + 1] for at in range(len(row) - 1)])


def pair_kinds(table):
    """For each two labels a number, alike if they are alike beside any k - 2 other cups."""
    rests = lots(table.labels, table.k - 2)
    numbers = {}
    kinds = []
    for a in range(table.labels):
        told = [tuple([blend_label(table, (a, b) + rest) for rest in rests]) for b in range(table.labels)]
        kinds.append([numbers.setdefault(row, len(numbers)) for row in told])
    return kinds


def wrong_exchange(one, other, kinds):
    """Some pair (a, b) of cups whose exchange matters, or None."""
    for a in range(len(one)):
        for b in range(a):
            if kinds[one[a]][other[b]] != kinds[one[b]][other[a]]:
                return a, b
    return None


def exchange_rows(table, one, other):
    """Rows against the third rule, from two rows whose first cups cannot be exchanged."""
    swapped = (other[0],) + one[1:]
    swapped_other = (one[0],) + other[1:]
    for rest in lots(table.labels, table.k - 2):
        # Like cups keep their label, so a row of them stands for a single cup.
        below = tuple([(label,) * table.k for label in rest])
        rows = (one, other) + below
        new_rows = (swapped, swapped_other) + below
        # If both grids kept the rule, their columns would make the exchange harmless.
        for grid in (rows, new_rows):
            if breaks_grid(table, grid):
                return grid
    return None
