"""The rules that faithful tables keep, and what shows that one is broken."""

from mixlabels.arithmetic import is_power_above
from mixlabels.closed import closure
from mixlabels.combining import part_table
from mixlabels.errors import Refused
from mixlabels.grids import breaks_grid, turned, wrong_rows
from mixlabels.makings import least_recipes
from mixlabels.mixtures import mixture_of
from mixlabels.recipes import MOST_INGREDIENTS, is_recipe
from mixlabels.tables import blend_label
from mixlabels.tasting import checked_naming, label_of
from mixlabels.things import are_below, is_below, is_tuple, tuples_below


def fault(table):
    for a in range(table.labels):
        if breaks_same(table, a):
            return "same", a
    for cups in tuples_below(table.labels, table.k):
        for i in range(table.k - 1):
            if breaks_order(table, cups, i):
                return "order", cups, i
    rows = wrong_rows(table)
    if rows is None:
        return None
    return "grid", rows


def breaks_same(table, a):
    return blend_label(table, (a,) * table.k) != a


def breaks_order(table, cups, i):
    return blend_label(table, cups) != blend_label(table, exchanged_cups(cups, i))


def exchanged_cups(cups, i):
    return cups[:i] + (cups[i + 1], cups[i]) + cups[i + 2:]


def is_fault(table, value):
    if not isinstance(value, tuple) or len(value) < 2 or not isinstance(value[0], str):
        return False
    if value[0] == "same":
        return len(value) == 2 and is_below(value[1], table.labels) and breaks_same(table, value[1])
    if value[0] == "order":
        return len(value) == 3 and is_order_fault(table, value[1], value[2])
    return value[0] == "grid" and len(value) == 2 and is_grid_fault(table, value[1])


def is_order_fault(table, cups, i):
    if not are_cups(table, cups) or not is_below(i, table.k - 1):
        return False
    return breaks_order(table, cups, i)


def is_grid_fault(table, rows):
    if not is_tuple(rows, table.k) or not all([are_cups(table, row) for row in rows]):
        return False
    return breaks_grid(table, rows)


def are_cups(table, value):
    return is_tuple(value, table.k) and are_below(value, table.labels)


def columns(rows):
    return turned(rows)


def two_recipes(table, naming):
    if is_power_above(table.k, table.labels + 1, MOST_INGREDIENTS):
        raise Refused(0)
    names = checked_naming(table, naming)
    wrong = fault(part_table(table, names))
    if wrong is None:
        return None
    # The table of the labels that can be made numbers them anew.
    labels = closure(table, names)
    made = least_recipes(table, names)
    return sides(wrong, [made[label] for label in labels], table.k)


def sides(wrong, made, k):
    """The two sides of a fault, with a recipe in the stead of each label."""
    if wrong[0] == "same":
        here = made[wrong[1]]
        return here, (here,) * k
    if wrong[0] == "order":
        cups = tuple([made[label] for label in wrong[1]])
        return cups, exchanged_cups(cups, wrong[2])
    rows = tuple([tuple([made[label] for label in row]) for row in wrong[1]])
    return rows, turned(rows)


def is_two_recipes(table, naming, value):
    names = checked_naming(table, naming)
    if not is_tuple(value, 2):
        return False
    one, other = value
    k, many = table.k, len(names)
    if not is_recipe(k, many, one) or not is_recipe(k, many, other):
        return False
    if mixture_of(k, many, one) != mixture_of(k, many, other):
        return False
    return label_of(table, names, one) != label_of(table, names, other)
