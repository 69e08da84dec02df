"""Papers that show how many labels it takes at least to answer an oracle."""

from mixlabels.cases import case_of
from mixlabels.fillings import first_mixture
from mixlabels.leaves import recipe_of
from mixlabels.mixtures import mixture_of
from mixlabels.recipes import is_recipe
from mixlabels.things import is_tuple
from mixlabels.trails import Walks, is_trail


def lower_paper(oracle):
    walks = Walks(oracle)
    numbers = walks.classes()
    firsts = [numbers.index(number) for number in range(1 + max(numbers))]
    cases = [walks.cases[first] for first in firsts]
    recipes = [recipe_of(oracle.k, first_mixture(oracle.k, oracle.modulus, case)) for case in cases]
    trails = [walks.trail(firsts[i], firsts[j]) for i, j in pairs_below(len(firsts))]
    return tuple(recipes), tuple(trails)


def pairs_below(many):
    """The pairs (i, j) of numbers i < j below the limit, ascending."""
    return [(i, j) for i in range(many) for j in range(i + 1, many)]


def is_lower_paper(oracle, n, value):
    if not is_tuple(value, 2) or not is_tuple(value[0], n) or not is_tuple(value[1], n * (n - 1) // 2):
        return False
    recipes, trails = value
    if not all([is_recipe(oracle.k, oracle.ingredients, recipe) for recipe in recipes]):
        return False
    if not all([is_trail(oracle, trail) for trail in trails]):
        return False
    walks = Walks(oracle)
    mixtures = [mixture_of(oracle.k, oracle.ingredients, recipe) for recipe in recipes]
    starts = [walks.numbers[case_of(oracle.k, mixture, oracle.modulus)] for mixture in mixtures]
    for trail, (i, j) in zip(trails, pairs_below(n)):
        ends = [walks.end(start, trail) for start in (starts[i], starts[j])]
        if oracle.answers[ends[0]] == oracle.answers[ends[1]]:
            return False
    return True
