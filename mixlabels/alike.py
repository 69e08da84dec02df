"""Tables that differ in the names of their labels alone."""

from itertools import permutations
from math import factorial

from mixlabels.errors import InvalidForm, InvalidTable
from mixlabels.forms import Form, are_joins, form_table, renamed
from mixlabels.grids import lots
from mixlabels.tables import blend_label, fits
from mixlabels.things import is_below, tuples_below
from mixlabels.wheels import check_faithful

MOST_OF_KINDS = 4


def likeness(one, other):
    check_faithful(one)
    check_faithful(other)
    found = all_names(one, other)
    if len(found) == 0:
        return None
    return found[0]


def all_names(one, other):
    """All names that lead from one table to the other, ascending; both are known to be faithful."""
    if one.k != other.k or one.labels != other.labels:
        return []
    found = [()]
    for a in range(one.labels):
        # The order of cups does not matter; other blends of the labels up to a were looked at before.
        fresh = [cups for cups in lots(a + 1, one.k) if a in cups or blend_label(one, cups) == a]
        longer = [names + (name,) for names in found for name in range(one.labels) if name not in names]
        found = [names for names in longer if leads(one, other, names, fresh)]
    return found


def leads(one, other, names, fresh):
    """Whether these blends, of labels that have their names, are as the names want it."""
    for cups in fresh:
        label = blend_label(one, cups)
        if label < len(names) and names[label] != blend_label(other, [names[cup] for cup in cups]):
            return False
    return True


def symmetry_count(table):
    check_faithful(table)
    return len(all_names(table, table))


def kinds(k, labels):
    if not is_below(labels, MOST_OF_KINDS + 1) or not fits(k, labels):
        raise InvalidTable(0)
    found = []
    for form in all_forms(k, labels):
        table = form_table(form)
        if not any([len(all_names(table, other)) > 0 for other in found]):
            found.append(table)
    return tuple(sorted([first_alike(table) for table in found], key=results_of))


def results_of(table):
    return table.results


def first_alike(table):
    """Of all alike tables the one with the first results."""
    return min([renamed(table, names) for names in permutations(list(range(table.labels)))], key=results_of)


def faithful_count(k, labels):
    return sum([factorial(labels) // symmetry_count(table) for table in kinds(k, labels)])


def all_forms(k, labels):
    """Forms of all faithful tables with so many labels, some of them more than once."""
    found = []
    for sizes in size_rows(labels):
        for joins in all_joins(len(sizes)):
            for sums in choices([sum_tables(size) for size in sizes]):
                found.extend(forms_with(k, sums, joins))
    return found


def size_rows(labels):
    """All tuples of sizes with this sum that do not descend."""
    return [row for many in range(1, labels + 1) for row in lots(labels + 1, many) if row[0] > 0 and sum(row) == labels]


def all_joins(many):
    pairs = [(v, w) for v in range(many) for w in range(v)]
    found = []
    for row in tuples_below(many, len(pairs)):
        joins = [[v] * many for v in range(many)]
        for at, (v, w) in enumerate(pairs):
            joins[v][w] = row[at]
            joins[w][v] = row[at]
        if are_joins(joins, many):
            found.append(joins)
    return found


def sum_tables(size):
    """A sum table of each kind, of a size up to 4."""
    found = [[[(a + b) % size for b in range(size)] for a in range(size)]]
    if size == 4:
        found.append([[a ^ b for b in range(size)] for a in range(size)])
    return found


def choices(lots_of):
    """All tuples of a thing of each of these lots."""
    found = [()]
    for lot in lots_of:
        found = [row + (thing,) for row in found for thing in lot]
    return found


def forms_with(k, sums, joins):
    many = len(sums)
    entries = []
    for v in range(many):
        for w in range(many):
            above = v != w and joins[v][w] == w
            kept = [tuple(range(len(sums[v])))] if v == w else [None]
            entries.append(tuples_below(len(sums[w]), len(sums[v])) if above else kept)
    found = []
    for row in choices(entries):
        try:
            found.append(Form(k, sums, joins, [row[v * many:v * many + many] for v in range(many)]))
        except InvalidForm:
            # Not all maps keep the sums and go together.
            pass
    return found
