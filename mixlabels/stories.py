"""Stories: two plans with one label and unlike mixtures."""

from mixlabels.arithmetic import power
from mixlabels.chains import Chain
from mixlabels.errors import InvalidRecipe
from mixlabels.leaves import digit_leaves, levels_of
from mixlabels.lines import last_number, line_rows, shift, shift_modulus
from mixlabels.mixtures import contained, counts_at
from mixlabels.plans import checked_plan, plan_label, plan_mixture, row_number
from mixlabels.tasting import checked_naming
from mixlabels.things import is_tuple


def path(table, naming, one, other):
    modulus = shift_modulus(table, naming)
    start, period = shift(table, naming)
    deepest = max(one[0], other[0])
    return Chain(table.k, modulus, deepest + start + period, one, other)


def is_story(table, naming, value):
    names = checked_naming(table, naming)
    k, many = table.k, len(names)
    if not is_tuple(value, 2) or not all([is_plan(k, many, plan) for plan in value]):
        return False
    one, other = [plan_mixture(k, many, plan) for plan in value]
    if one == other or contained(one) != contained(other):
        return False
    return plan_label(table, names, value[0]) == plan_label(table, names, value[1])


def is_plan(k, ingredients, value):
    """Whether any value is a plan, tuples throughout."""
    try:
        checked = checked_plan(k, ingredients, value)
    except InvalidRecipe:
        return False
    return checked == value


def story(table, naming, one, other, index):
    chain = path(table, naming, one, other)
    a, b = chain.jump_at(index)
    start, period = shift(table, naming)
    mixture = chain.mixture_after(index)
    # At the greater depth of both ends, each mixture of the path has room for this part of the line
    # from a to b; the part that stands on the line a period later has the same label.
    first = plan_with_line(chain, mixture, (a, b, start), start)
    return first, plan_with_line(chain, mixture, (a, b, start), start + period)


def plan_with_line(chain, mixture, room, many):
    """A plan of the mixture with the part x_start of the line from a to b, and x_many in its stead."""
    a, b, start = room
    k, ingredients = chain.k, len(mixture[1])
    deep = max(chain.start[0], chain.goal[0])
    rows = line_rows(k, ingredients, a, b, many)
    numbers = {row: ingredients + at for at, row in enumerate(rows)}
    unit = power(k, chain.depth - deep - start)
    counts = list(counts_at(k, mixture, chain.depth))
    counts[a] -= unit
    counts[b] -= unit * (power(k, start) - 1)
    pairs = [(deep, last_number(ingredients, a, rows))]
    for i, count in enumerate(counts):
        pairs.extend(digit_leaves(k, chain.depth, i, count))
    cup = planned(k, ingredients, pairs, numbers)
    return tuple(list(numbers)), cup


def planned(k, ingredients, pairs, numbers):
    """The number of a recipe with what these numbers stand for at these depths; `numbers` gets its rows."""
    parts = []
    for level in reversed(levels_of(pairs)):
        blends = [tuple(parts[at:at + k]) for at in range(0, len(parts), k)]
        parts = level + [row_number(ingredients, row, numbers) for row in blends]
    return parts[0]
