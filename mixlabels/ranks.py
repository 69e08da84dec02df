"""The order of the full recipes with one label, and their numbers for a mixture."""

from math import factorial

from mixlabels.errors import Refused
from mixlabels.fullness import counts_deep
from mixlabels.recipes import standing
from mixlabels.tables import blend_label
from mixlabels.tasting import taste
from mixlabels.things import tuples_below

# So many binary digits hold any number of recipes here, and so many any number of ingredients and a sign.
WAYS = 64
COUNT = 8


class Ranking:
    """The full recipes with the labels of one table and naming, in their order."""

    def __init__(self, table, naming, depth):
        self.table = table
        self.naming = naming
        self.counts = counts_deep(table, naming, depth)

    def weights_of_cup(self, weights, deep, before):
        """In how many ways all that is behind a cup can be filled up, for each label of the cup."""
        table = self.table
        found = [0] * table.labels
        for rest in tuples_below(table.labels, table.k - len(before)):
            ways = weights[blend_label(table, before + rest)]
            for label in rest[1:]:
                ways = ways * self.counts[deep - 1][label]
            found[rest[0]] += ways
        return found

    def recipe_with(self, weights, deep, index):
        """The recipe that is filled up with this index, and what is left of the index."""
        if deep == 0:
            left = index
            for i, label in enumerate(self.naming):
                if left < weights[label]:
                    return i, left
                left -= weights[label]
        cups = ()
        labels = ()
        left = index
        for _ in range(self.table.k):
            cup, left = self.recipe_with(self.weights_of_cup(weights, deep, labels), deep - 1, left)
            cups = cups + (cup,)
            labels = labels + (taste(self.table, self.naming, cup, []),)
        return cups, left

    def ahead(self, weights, deep, recipe):
        """How many recipes, filled up in all ways, stand ahead of one."""
        if deep == 0:
            return sum([weights[label] for label in self.naming[:recipe]])
        labels = ()
        total = 0
        for cup in recipe:
            total += self.ahead(self.weights_of_cup(weights, deep, labels), deep - 1, cup)
            labels = labels + (taste(self.table, self.naming, cup, []),)
        return total


def label_alone(table, label):
    return [1 if other == label else 0 for other in range(table.labels)]


def full_at(table, naming, depth, label, index):
    ranking = Ranking(table, tuple(naming), depth)
    many = ranking.counts[depth][label]
    if index >= many:
        raise Refused(many)
    return ranking.recipe_with(label_alone(table, label), depth, index)[0]


def rank_of(table, naming, recipe):
    names = tuple(naming)
    depth = max([deep for deep, _ in standing(recipe)])
    label = taste(table, names, recipe, [])
    return Ranking(table, names, depth).ahead(label_alone(table, label), depth, recipe)


def mixture_counts(table, naming, mixture):
    n, counts = mixture
    # Rows of ingredients with the same labels are as many for each row of labels.
    rows = 1
    sums = [0] * table.labels
    for label, count in zip(naming, counts):
        sums[label] += count
        rows = rows * factorial(count)
    alike = 1
    for many in sums:
        alike = alike * factorial(many)
    lots = {packed_alone(label, COUNT): [(label, 1)] for label in sorted(set(naming))}
    for deep in range(n):
        lots = blended_lots(table, lots, sums, deep == n - 1)
    ways = dict(lots[packed(sums, COUNT)])
    return tuple([ways.get(label, 0) * alike // rows for label in range(table.labels)])


def packed(numbers, digits):
    """Small numbers side by side in a great one."""
    total = 0
    for number in reversed(numbers):
        total = (total << digits) + number
    return total


def packed_alone(label, digits):
    return 1 << (label * digits)


def blended_lots(table, lots, sums, is_last):
    """The labels of k cups, for all lots of ingredients' labels together that go into the sums, or just for these."""
    # A lot goes in if all of its numbers can be taken away without a loan from the sign of each.
    guard = packed([1 << (COUNT - 1)] * table.labels, COUNT)
    room = packed(sums, COUNT)
    before = {0: {(): 1}}
    for _ in range(table.k - 1):
        before = with_one_more(before, lots, room + guard, guard)
    found = {}
    for some, prefixes in before.items():
        results = results_behind(table, prefixes)
        if is_last:
            more = [room - some] if room - some in lots else []
        else:
            more = [other for other in lots if (room + guard - some - other) & guard == guard]
        for other in more:
            ways = sum([many * results[label] for label, many in lots[other]])
            found[some + other] = found.get(some + other, 0) + ways
    return {some: unpacked(ways, table.labels) for some, ways in found.items()}


def with_one_more(before, lots, room, guard):
    """The labels of one cup more, and how often they occur, for each lot of ingredients' labels together."""
    found = {}
    for some, prefixes in before.items():
        for other, labels in lots.items():
            if (room - some - other) & guard == guard:
                longer = found.setdefault(some + other, {})
                for prefix, many in prefixes.items():
                    for label, ways in labels:
                        key = prefix + (label,)
                        longer[key] = longer.get(key, 0) + many * ways
    return found


def results_behind(table, prefixes):
    """For each label of the last cup in how many ways the blend has each label, side by side."""
    found = [0] * table.labels
    for prefix, many in prefixes.items():
        for label in range(table.labels):
            found[label] += many << (WAYS * blend_label(table, prefix + (label,)))
    return found


def unpacked(ways, labels):
    """The pairs (label, number) of what stands side by side, without those that are 0."""
    found = []
    left = ways
    for label in range(labels):
        many = left % (1 << WAYS)
        if many > 0:
            found.append((label, many))
        left = left >> WAYS
    return found
