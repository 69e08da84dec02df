"""The labels of recipes."""

from mixlabels.errors import InvalidNaming
from mixlabels.recipes import checked_recipe
from mixlabels.tables import blend_label
from mixlabels.things import first_not_below, is_sequence

MOST_NAMES = 12


def label_of(table, naming, recipe):
    names = checked_naming(table, naming)
    checked_recipe(table.k, len(names), recipe)
    return taste(table, names, recipe, [])


def stages(table, naming, recipe):
    names = checked_naming(table, naming)
    checked_recipe(table.k, len(names), recipe)
    told = []
    taste(table, names, recipe, told)
    return tuple(told)


def checked_naming(table, naming):
    """The naming as a tuple."""
    if not is_sequence(naming):
        raise InvalidNaming(MOST_NAMES)
    wrong = first_not_below(naming, table.labels)
    if wrong is not None:
        raise InvalidNaming(wrong)
    if not 1 <= len(naming) <= MOST_NAMES:
        raise InvalidNaming(MOST_NAMES)
    return tuple(naming)


def taste(table, names, recipe, told):
    """The label of a recipe; the labels of its blends are put behind those told."""
    if not isinstance(recipe, tuple):
        return names[recipe]
    label = blend_label(table, [taste(table, names, cup, told) for cup in recipe])
    told.append(label)
    return label
