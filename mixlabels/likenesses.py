"""Mixtures that are told to bear the same label, and the sets of ingredients that they seal."""

from mixlabels.errors import InvalidBowl, InvalidPair, InvalidQuestion
from mixlabels.leaves import recipe_of
from mixlabels.mixtures import contained, is_mixture
from mixlabels.recipes import is_bowl
from mixlabels.tasting import label_of
from mixlabels.things import is_integer, is_sequence, subsets

MOST_TOLD = 5


class Likenesses:
    """Pairs of mixtures that are told to be alike."""

    def __init__(self, k, ingredients, pairs):
        check_sizes(k, ingredients)
        if not is_sequence(pairs):
            raise InvalidPair(0)
        for at, pair in enumerate(pairs):
            if not is_sequence(pair) or len(pair) != 2:
                raise InvalidPair(at)
            if not all([is_mixture(k, ingredients, mixture) for mixture in pair]):
                raise InvalidPair(at)
        self.k = k
        self.ingredients = ingredients
        self.pairs = tuple([tuple(pair) for pair in pairs])

    def __eq__(self, other):
        if not isinstance(other, Likenesses):
            return False
        return self.k == other.k and self.ingredients == other.ingredients and self.pairs == other.pairs

    def __len__(self):
        return len(self.pairs)


def check_sizes(k, ingredients):
    if not is_bowl(k):
        raise InvalidBowl(0)
    if not is_integer(ingredients) or not 1 <= ingredients <= MOST_TOLD:
        raise InvalidQuestion(1)


def book_label(table, naming, mixture):
    return label_of(table, naming, recipe_of(table.k, mixture))


def broken(told, table, naming):
    for at, (one, other) in enumerate(told.pairs):
        if book_label(table, naming, one) != book_label(table, naming, other):
            return at
    return None


def sealed_sets(told):
    some = [inner for inner in subsets(list(range(told.ingredients))) if is_sealed(told, inner)]
    return tuple(sorted(some)[1:])


def is_sealed(told, some):
    return all([is_within(one, some) == is_within(other, some) for one, other in told.pairs])


def is_within(mixture, some):
    return all([ingredient in some for ingredient in contained(mixture)])


def sealing(told, mixture):
    return sealed_around(told, contained(mixture))


def sealed_around(told, some):
    """The sealed set that includes these ingredients and lies within all other such sets."""
    known = some
    at = 0
    # Each pair that leads out of what is known adds an ingredient, and then all are looked at anew.
    while at < len(told.pairs):
        one, other = told.pairs[at]
        at += 1
        if is_within(one, known) != is_within(other, known):
            known = tuple(sorted(set(known + contained(one) + contained(other))))
            at = 0
    return known
