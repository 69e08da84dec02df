"""What recipes cost at least, if labels are bought at prices and blended."""

from math import lcm

from mixlabels.errors import Refused
from mixlabels.pivots import solution
from mixlabels.prices import checked_prices
from mixlabels.ratios import is_fraction
from mixlabels.tables import blend_label
from mixlabels.things import are_below, is_tuple, tuples_below, tuples_of


def costs(table, prices):
    checked = checked_prices(table, prices)
    ways = [None] * table.labels
    row = row_by(table, checked, ways)
    better = better_ways(table, row, ways)
    # Each change makes some numbers less and none greater, so no ways come a second time.
    while better != ways:
        ways = better
        row = row_by(table, checked, ways)
        better = better_ways(table, row, ways)
    return tuple(row), tuple(ways)


def row_by(table, prices, ways):
    """The numbers of all labels if they are the prices, or come from those of the ways."""
    equations = []
    for a, way in enumerate(ways):
        equation = [0] * (table.labels + 1)
        equation[a] = 1
        equation[-1] = prices[a]
        if way is not None:
            equation[a] = table.k
            equation[-1] = 0
            for cup in way:
                equation[cup] -= 1
        equations.append(equation)
    return solution(equations)


def whole(row):
    """The fractions times their least common denominator, and that."""
    scale = 1
    for _, bottom in row:
        scale = lcm(scale, bottom)
    return [top * (scale // bottom) for top, bottom in row], scale


def better_ways(table, row, ways):
    """The ways, but for labels that some blend makes cheaper those that make them cheapest."""
    numbers = whole(row)[0]
    found = list(ways)
    least = [table.k * number for number in numbers]
    for cups in tuples_below(table.labels, table.k):
        label = blend_label(table, cups)
        total = sum([numbers[cup] for cup in cups])
        if total < least[label]:
            least[label] = total
            found[label] = cups
    return found


def is_costs(table, prices, value):
    checked = checked_prices(table, prices)
    if not is_tuple(value, 2) or not is_tuple(value[0], table.labels) or not is_tuple(value[1], table.labels):
        return False
    row, ways = value
    if not all([is_fraction(number) for number in row]) or not all([is_way(table, way) for way in ways]):
        return False
    numbers, scale = whole(row)
    if any([number > price * scale for number, price in zip(numbers, checked)]):
        return False
    if any([extra(table, numbers, cups) < 0 for cups in tuples_below(table.labels, table.k)]):
        return False
    for a, way in enumerate(ways):
        if way is None and numbers[a] != checked[a] * scale:
            return False
        if way is not None and (blend_label(table, way) != a or extra(table, numbers, way) != 0):
            return False
    return all_end(ways)


def is_way(table, value):
    return value is None or is_tuple(value, table.k) and are_below(value, table.labels)


def extra(table, numbers, cups):
    """How much the numbers of the cups are above k times that of the blend."""
    return sum([numbers[cup] for cup in cups]) - table.k * numbers[blend_label(table, cups)]


def all_end(ways):
    """Whether one comes from each label to one without a way."""
    ending = [way is None for way in ways]
    for _ in ways:
        ending = [way is None or any([ending[cup] for cup in way]) for way in ways]
    return all(ending)


def cheapest_recipe(table, prices, label):
    checked = checked_prices(table, prices)
    numbers, scale = whole(costs(table, checked)[0])
    made_of = {a: a for a in range(table.labels) if numbers[a] == checked[a] * scale}
    before = 0
    while before < len(made_of) and label not in made_of:
        before = len(made_of)
        known = tuples_of(sorted(made_of), table.k)
        for cups in known:
            if extra(table, numbers, cups) == 0:
                made_of.setdefault(blend_label(table, cups), tuple([made_of[cup] for cup in cups]))
    if label not in made_of:
        raise Refused(0)
    return made_of[label]
