"""Point 9: leaves."""

import unittest
from collections import Counter

from mixlabels.leaves import arrangement_count, fewest, full, leaves, recipe_count, recipe_of, recipe_with
from mixlabels.mixtures import mixture_of
from mixlabels.recipes import depth, ingredient_row, is_recipe, part
from tests.helpers import SIZES, all_mixtures, all_recipes, error_of, generator, grown_pairs, random_recipe

FEW = {2: 3, 3: 2, 4: 1, 5: 1}


def few_recipes(k):
    """All recipes of two ingredients that are not too many."""
    return all_recipes(k, 2, FEW[k])


class LeavesTest(unittest.TestCase):
    def test_leaves(self):
        self.assertEqual(leaves(recipe=(1, (0, 1))), ((1, 1), (2, 0), (2, 1)))
        self.assertEqual(leaves(5), ((0, 5),))
        self.assertEqual(leaves((0, 0)), ((1, 0), (1, 0)))

    def test_recipe_with(self):
        rnd = generator(1)
        for k in SIZES:
            for _ in range(100):
                pairs = list(leaves(random_recipe(rnd, k, 4, 4)))
                rnd.shuffle(pairs)
                kept = list(pairs)
                recipe = recipe_with(k=k, pairs=pairs)
                self.assertEqual(pairs, kept)
                self.assertTrue(is_recipe(k, 4, recipe))
                self.assertEqual(leaves(recipe), tuple(sorted(pairs)))
                self.assertEqual(error_of(recipe_with, k, pairs + [(12, 0)]), ("Refused", 0))
                self.assertEqual(error_of(recipe_with, k, tuple(pairs[1:])), ("Refused", 0))
            self.assertEqual(recipe_with(k, [(0, 3)]), 3)
            for pairs in ([], (), [(0, 0), (0, 0)], [(1, 0)], [(1, 0)] * (k + 1), [(0, 0), (5, 0)], [(12, 0)] * k):
                self.assertEqual(error_of(recipe_with, k, pairs), ("Refused", 0))
            pairs = grown_pairs(rnd, k, 12, 2000)
            self.assertEqual(leaves(recipe_with(k, pairs)), tuple(sorted(pairs)))

    def test_arrangement_count(self):
        for k in SIZES:
            counted = Counter(leaves(recipe) for recipe in few_recipes(k))
            for pairs, many in counted.items():
                self.assertEqual(arrangement_count(k=k, pairs=list(reversed(pairs))), many)
            for pairs in ([], [(1, 0)], [(1, 0)] * (k + 1), [(0, 1), (0, 1)], [(0, 1), (3, 1)], [(12, 0)]):
                self.assertEqual(arrangement_count(k, pairs), 0)
            self.assertEqual(arrangement_count(k, [(0, 7)]), 1)
        three = [recipe for recipe in all_recipes(2, 3, 2)]
        counted = Counter(leaves(recipe) for recipe in three)
        for pairs, many in counted.items():
            self.assertEqual(arrangement_count(2, pairs), many)
        pairs = grown_pairs(generator(2), 2, 12, 2000)
        self.assertGreater(arrangement_count(2, pairs), 10 ** 100)


class FewestTest(unittest.TestCase):
    def test_fewest_of_all(self):
        for k in SIZES:
            groups = {}
            for recipe in few_recipes(k):
                groups.setdefault(mixture_of(k, 2, recipe), []).append(recipe)
            for mixture, recipes in groups.items():
                least = min(len(ingredient_row(recipe)) for recipe in recipes)
                wanted = {leaves(recipe) for recipe in recipes if len(ingredient_row(recipe)) == least}
                self.assertEqual({fewest(k=k, mixture=mixture)}, wanted)
                self.assertEqual(leaves(recipe_of(k=k, mixture=mixture)), fewest(k, mixture))

    def test_digits(self):
        self.assertEqual(fewest(3, (2, (5, 4))), ((1, 0), (1, 1), (2, 0), (2, 0), (2, 1)))
        self.assertEqual(fewest(2, (0, (0, 1))), ((0, 1),))
        for k in SIZES:
            mixture = (12, (1, k ** 12 - 2, 1))
            recipe = recipe_of(k, mixture)
            self.assertEqual(mixture_of(k, 3, recipe), mixture)
            self.assertEqual(leaves(recipe), fewest(k, mixture))
            self.assertTrue(is_recipe(k, 3, recipe))

    def test_recipe_count(self):
        for k in SIZES:
            for deep in range(FEW[k] + 1):
                counted = Counter(mixture_of(k, 2, recipe) for recipe in all_recipes(k, 2, deep))
                for mixture in all_mixtures(k, 2, FEW[k]):
                    self.assertEqual(recipe_count(k=k, mixture=mixture, deep=deep), counted[mixture])
        counted = Counter(mixture_of(2, 4, recipe) for recipe in all_recipes(2, 4, 2))
        for mixture in all_mixtures(2, 4, 2):
            self.assertEqual(recipe_count(2, mixture, 2), counted[mixture])
        self.assertEqual(recipe_count(2, (3, (1, 7)), 2), 0)
        self.assertEqual(recipe_count(5, (0, (1,)), 0), 1)

    def test_recipe_counts_add_up(self):
        for k, deep in ((2, 4), (3, 3), (4, 2), (5, 2)):
            total = sum(recipe_count(k, mixture, deep) for mixture in all_mixtures(k, 2, deep))
            many = 2
            for _ in range(deep):
                many = 2 + many ** k
            self.assertEqual(total, many)


class FullTest(unittest.TestCase):
    def test_full(self):
        rnd = generator(3)
        for k in SIZES:
            for _ in range(30):
                recipe = random_recipe(rnd, k, 3, 3)
                deep = depth(recipe) + rnd.randrange(2)
                done = full(k=k, recipe=recipe, deep=deep)
                self.assertEqual({pair[0] for pair in leaves(done)}, {deep})
                self.assertEqual(len(leaves(done)), k ** deep)
                self.assertEqual(mixture_of(k, 3, done), mixture_of(k, 3, recipe))
                for deep_pair in leaves(recipe):
                    self.assertIn(deep_pair[1], ingredient_row(done))
        self.assertEqual(full(2, (0, (1, 2)), 2), ((0, 0), (1, 2)))
        self.assertEqual(full(3, 4, 0), 4)
        self.assertEqual(part(full(2, 1, 10), (0,) * 10), 1)

    def test_refused(self):
        for k in SIZES:
            deep = {2: 11, 3: 7, 4: 6, 5: 5}[k]
            self.assertEqual(error_of(full, k, 0, deep), ("Refused", 1))
            self.assertEqual(error_of(full, k, 0, 10 ** 18), ("Refused", 1))
            self.assertEqual(len(ingredient_row(full(k, 0, deep - 1))), k ** (deep - 1))
            self.assertEqual(error_of(full, k, (0,) * k, 0), ("Refused", 0))
        recipe = 0
        for _ in range(12):
            recipe = (recipe, 0)
        self.assertEqual(error_of(full, 2, recipe, 11), ("Refused", 0))
        self.assertEqual(error_of(full, 2, recipe, 12), ("Refused", 1))


if __name__ == "__main__":
    unittest.main()
