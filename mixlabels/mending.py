"""Tables mended by taking labels together."""

from mixlabels.combining import image_table
from mixlabels.faults import fault, sides
from mixlabels.groupings import clash, classes_of, grouping_of, is_grouping
from mixlabels.mixtures import mixture_of
from mixlabels.recipes import is_recipe
from mixlabels.tables import blend_label
from mixlabels.tasting import taste
from mixlabels.things import is_tuple


def mends(table, grouping):
    return clash(table, grouping) is None and fault(image_table(table, grouping)) is None


def mended(table):
    grouping, links = merged(table)
    return grouping, tuple([recipes for recipes, _ in links])


def merged(table):
    """The finest grouping that mends, and links that each take two of its classes together."""
    # A link is a pair of recipes with the same mixture, and the pair of their labels.
    links = []
    grouping = tuple(range(table.labels))
    recipes = next_recipes(table, grouping, links)
    while recipes is not None:
        links.append((recipes, tuple([own_label(table, recipe) for recipe in recipes])))
        grouping = grouping_of(table.labels, [labels for _, labels in links])
        recipes = next_recipes(table, grouping, links)
    return grouping, links


def own_label(table, recipe):
    """The label of a recipe whose ingredients are the labels themselves."""
    return taste(table, list(range(table.labels)), recipe, [])


def next_recipes(table, grouping, links):
    """Two recipes with the same mixture whose labels are in unlike classes, or None if the grouping mends."""
    wrong = clash(table, grouping)
    if wrong is None:
        firsts = [some[0] for some in classes_of(grouping)]
        broken = fault(image_table(table, grouping))
        return None if broken is None else sides(broken, firsts, table.k)
    cups, i, other = wrong
    # Not all labels on the way from one cup to the other can have blends of one class.
    for recipes, labels in way_between(links, cups[i], other):
        one, another = [cups[:i] + (label,) + cups[i + 1:] for label in labels]
        if grouping[blend_label(table, one)] != grouping[blend_label(table, another)]:
            return tuple([cups[:i] + (recipe,) + cups[i + 1:] for recipe in recipes])
    return None


def way_between(links, one, other):
    """The links, turned round where needed, that lead from a label to another one."""
    ways = {one: ()}
    waiting = [one]
    while other not in ways:
        here = waiting.pop()
        for recipes, labels in links:
            for turn in (1, -1):
                start, end = labels[::turn]
                if start == here and end not in ways:
                    ways[end] = ways[here] + ((recipes[::turn], labels[::turn]),)
                    waiting.append(end)
    return ways[other]


def is_mending(table, value):
    if not is_tuple(value, 2) or not is_grouping(table.labels, value[0]):
        return False
    grouping, pairs = value
    if not isinstance(pairs, tuple) or not all([is_like_pair(table, pair) for pair in pairs]):
        return False
    labels = [(own_label(table, one), own_label(table, other)) for one, other in pairs]
    return grouping_of(table.labels, labels) == grouping and mends(table, grouping)


def is_like_pair(table, value):
    """Whether any value is a pair of recipes of the labels that have the same mixture."""
    k, labels = table.k, table.labels
    if not is_tuple(value, 2) or not all([is_recipe(k, labels, recipe) for recipe in value]):
        return False
    return mixture_of(k, labels, value[0]) == mixture_of(k, labels, value[1])


def mended_table(table):
    return image_table(table, merged(table)[0])
