"""Knots: two parts of a recipe, one inside the other, with the same label."""

from mixlabels.errors import Refused
from mixlabels.plans import folded_number, row_number
from mixlabels.recipes import checked_recipe, is_place, part, placed
from mixlabels.tables import blend_label
from mixlabels.tasting import checked_naming


def knots(table, naming, recipe):
    names = checked_naming(table, naming)
    checked_recipe(table.k, len(names), recipe)
    return tuple(knots_of(table, names, recipe))


def knots_of(table, names, recipe):
    labels = {}
    label_parts(table, names, recipe, (), labels)
    found = []
    for inner in labels:
        for at in range(len(inner)):
            if labels[inner[:at]] == labels[inner]:
                found.append((inner[:at], inner))
    return sorted(found)


def label_parts(table, names, recipe, place, labels):
    """The label of the part that stands at the place; those of all its parts are put to their places."""
    if isinstance(recipe, tuple):
        cups = [label_parts(table, names, cup, place + (at,), labels) for at, cup in enumerate(recipe)]
        labels[place] = blend_label(table, cups)
    else:
        labels[place] = names[recipe]
    return labels[place]


def pumped(table, naming, recipe, outer, inner, times):
    names = checked_naming(table, naming)
    checked_recipe(table.k, len(names), recipe)
    if not is_place(recipe, outer) or not is_place(recipe, inner):
        raise Refused(0)
    if (outer, inner) not in knots_of(table, names, recipe):
        raise Refused(0)
    many = len(names)
    numbers = {}
    number = folded_number(many, part(recipe, inner), numbers)
    for _ in range(times):
        number = number_with(many, part(recipe, outer), inner[len(outer):], number, numbers)
    number = number_with(many, recipe, outer, number, numbers)
    return tuple(list(numbers)), number


def number_with(ingredients, recipe, place, number, numbers):
    """The number of a recipe in which what the number stands for stands at a place."""
    if len(place) == 0:
        return number
    row = [folded_number(ingredients, cup, numbers) for at, cup in enumerate(recipe) if at != place[0]]
    here = number_with(ingredients, recipe[place[0]], place[1:], number, numbers)
    return row_number(ingredients, tuple(row[:place[0]] + [here] + row[place[0]:]), numbers)


def untied(table, naming, recipe):
    names = checked_naming(table, naming)
    now = checked_recipe(table.k, len(names), recipe)
    found = knots_of(table, names, now)
    while len(found) > 0:
        outer, inner = found[0]
        now = placed(now, outer, part(now, inner))
        found = knots_of(table, names, now)
    return now
