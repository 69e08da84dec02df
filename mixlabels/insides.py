"""Which labels are in which."""

from mixlabels.things import tuples_below


def inside_rows(table):
    """For each label a tuple of the labels that are in it: those that some of its blends have a cup of."""
    found = [{} for _ in range(table.labels)]
    for at, cups in enumerate(tuples_below(table.labels, table.k)):
        for cup in cups:
            found[table.results[at]][cup] = True
    return [tuple(sorted(row)) for row in found]
