"""Guides: for each label that can be made the labels out of which it is blended next."""

from mixlabels.closed import spread
from mixlabels.errors import Refused
from mixlabels.recipes import MOST_INGREDIENTS
from mixlabels.tables import blend_label
from mixlabels.things import are_below, is_below, is_integer, is_number, is_tuple, tuples_of


def is_guide(table, naming, value):
    if not isinstance(value, dict) or not all([is_integer(label) for label in value]):
        return False
    if tuple(sorted(value)) != spread(table, naming):
        return False
    return all([is_way(table, naming, label, value) for label in value]) and all_end(value)


def is_way(table, naming, label, guide):
    """Whether what a guide tells for a label makes it, by an ingredient or by a blend."""
    way = guide[label]
    if is_below(way, len(naming)):
        return naming[way] == label
    return is_tuple(way, table.k) and are_below(way, table.labels) and blend_label(table, way) == label


def all_end(guide):
    """Whether no label is come back to, and none is come to that has no way."""
    ended = {}
    before = -1
    while before < len(ended):
        before = len(ended)
        for label, way in guide.items():
            if not isinstance(way, tuple) or all([cup in ended for cup in way]):
                ended[label] = True
    return len(ended) == len(guide)


def follow(guide, label):
    sizes = {}
    many = size_of(guide, label, sizes)
    if many > MOST_INGREDIENTS:
        raise Refused(many)
    return followed(guide, label)


def size_of(guide, label, sizes):
    """How many ingredients the recipe followed has; what is known of others is noted."""
    if label not in sizes:
        way = guide[label]
        sizes[label] = sum([size_of(guide, cup, sizes) for cup in way]) if isinstance(way, tuple) else 1
    return sizes[label]


def followed(guide, label):
    way = guide[label]
    if isinstance(way, tuple):
        return tuple([followed(guide, cup) for cup in way])
    return way


def depths(table, naming):
    return ways_by_depth(table, naming)[0]


def depth_guide(table, naming):
    return in_order(ways_by_depth(table, naming)[1])


def ways_by_depth(table, naming):
    """The least depth of each label, and ways that lead to it."""
    found = [None] * table.labels
    ways = {}
    for i, label in enumerate(naming):
        if label not in ways:
            found[label] = 0
            ways[label] = i
    deep = 0
    more = list(ways)
    while len(more) > 0:
        deep += 1
        more = []
        known = sorted(ways)
        for cups in tuples_of(known, table.k):
            label = blend_label(table, cups)
            if found[label] is None:
                found[label] = deep
                ways[label] = cups
                more.append(label)
    return tuple(found), ways


def in_order(guide):
    return {label: guide[label] for label in sorted(guide)}


def cheapest(table, naming, costs, fee=0):
    row = [None] * table.labels
    guide = {}
    pure = [(cost, label, i) for i, (label, cost) in enumerate(zip(naming, costs))]
    made = spread(table, naming)
    while len(guide) < len(made):
        # The least of all offers cannot be bettered: what is blended with its label costs no less.
        offers = [offer for offer in pure if offer[1] not in guide]
        for cups in tuples_of(sorted(guide), table.k):
            label = blend_label(table, cups)
            if label not in guide:
                offers.append((sum([row[cup] for cup in cups]) + fee, label, cups))
        cost, label, way = first_offer(offers)
        row[label] = cost
        guide[label] = way
    return tuple(row), in_order(guide)


def first_offer(offers):
    """The first one of the least cost."""
    best = offers[0]
    for offer in offers:
        if offer[0] < best[0]:
            best = offer
    return best


def is_floor(table, naming, costs, fee, value):
    if not is_tuple(value, table.labels) or not all([number is None or is_number(number) for number in value]):
        return False
    for label, cost in zip(naming, costs):
        if value[label] is None or value[label] > cost:
            return False
    known = [label for label, number in enumerate(value) if number is not None]
    for cups in tuples_of(known, table.k):
        number = value[blend_label(table, cups)]
        if number is None or number > sum([value[cup] for cup in cups]) + fee:
            return False
    return True
