"""Plans: recipes in which each blend is told once."""

from mixlabels.errors import InvalidRecipe, Refused
from mixlabels.mixtures import blended
from mixlabels.recipes import DEEPEST, MOST_INGREDIENTS
from mixlabels.tables import blend_label
from mixlabels.tasting import checked_naming
from mixlabels.things import are_below, is_below, is_sequence

MOST_ROWS = 1000


def checked_plan(k, ingredients, value):
    if not is_sequence(value) or len(value) != 2 or not is_sequence(value[0]):
        raise InvalidRecipe(0)
    rows, cup = value
    checked = []
    for at, row in enumerate(rows):
        if at >= MOST_ROWS or not is_row(k, ingredients + at, row):
            raise InvalidRecipe(at)
        checked.append(tuple(row))
    if not is_below(cup, ingredients + len(checked)):
        raise InvalidRecipe(len(checked))
    return tuple(checked), cup


def is_row(k, limit, row):
    return is_sequence(row) and len(row) == k and are_below(row, limit)


def plan_depth(k, ingredients, plan):
    rows, cup = checked_plan(k, ingredients, plan)
    return depths_of(ingredients, rows)[cup]


def depths_of(ingredients, rows):
    """The depths of the recipes that all numbers stand for."""
    found = [0] * ingredients
    for row in rows:
        found.append(1 + max([found[number] for number in row]))
    return found


def plan_mixture(k, ingredients, plan):
    rows, cup = checked_plan(k, ingredients, plan)
    found = []
    for i in range(ingredients):
        found.append((0, tuple([1 if j == i else 0 for j in range(ingredients)])))
    for row in rows:
        found.append(blended(k, [found[number] for number in row]))
    return found[cup]


def unfolded(k, ingredients, plan):
    rows, cup = checked_plan(k, ingredients, plan)
    deepest = depths_of(ingredients, rows)[cup]
    if deepest > DEEPEST:
        raise Refused(deepest)
    sizes = [1] * ingredients
    for row in rows:
        sizes.append(sum([sizes[number] for number in row]))
    if sizes[cup] > MOST_INGREDIENTS:
        raise Refused(sizes[cup])
    return recipe_told(ingredients, rows, cup)


def recipe_told(ingredients, rows, number):
    if number < ingredients:
        return number
    return tuple([recipe_told(ingredients, rows, cup) for cup in rows[number - ingredients]])


def folded(k, ingredients, recipe):
    numbers = {}
    cup = folded_number(ingredients, recipe, numbers)
    return tuple(list(numbers)), cup


def folded_number(ingredients, recipe, numbers):
    """The number of a recipe; rows that are new get theirs."""
    if not isinstance(recipe, tuple):
        return recipe
    row = tuple([folded_number(ingredients, cup, numbers) for cup in recipe])
    return row_number(ingredients, row, numbers)


def row_number(ingredients, row, numbers):
    """The number of the blend with these cups; `numbers` keeps the rows in their order."""
    return numbers.setdefault(row, ingredients + len(numbers))


def plan_labels(table, naming, plan):
    names = checked_naming(table, naming)
    rows = checked_plan(table.k, len(names), plan)[0]
    found = list(names)
    for row in rows:
        found.append(blend_label(table, [found[number] for number in row]))
    return tuple(found)


def plan_label(table, naming, plan):
    return plan_labels(table, naming, plan)[plan[1]]
