"""Recipes for all labels that can be made."""

from mixlabels.tables import blend_label
from mixlabels.things import tuples_of


def least_recipes(table, naming):
    """For each label that can be made, a recipe of the least depth."""
    found = {}
    for ingredient, label in enumerate(naming):
        found.setdefault(label, ingredient)
    while True:
        fresh = {}
        for cups in tuples_of(sorted(found), table.k):
            label = blend_label(table, cups)
            if label not in found:
                fresh.setdefault(label, tuple([found[cup] for cup in cups]))
        if len(fresh) == 0:
            return found
        for label, recipe in fresh.items():
            found[label] = recipe
