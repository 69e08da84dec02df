"""Point 6: recipes, parts and places."""

import unittest

from mixlabels.recipes import (
    checked_bowl, checked_recipe, depth, ingredient_row, is_bowl, is_recipe, part, placed,
)
from tests.helpers import ODD, SIZES, deep_value, error_of, generator, grown_recipe, nested, random_recipe


def chain(k, deep, last=0):
    """A recipe so deep, with one blend at each depth."""
    found = last
    for _ in range(deep):
        found = (found,) + (0,) * (k - 1)
    return found


def walk(recipe, place=()):
    """All parts with their places, a blend ahead of its cups."""
    found = [(place, recipe)]
    if isinstance(recipe, tuple):
        for at, cup in enumerate(recipe):
            found += walk(cup, place + (at,))
    return found


class BowlTest(unittest.TestCase):
    def test_bowls(self):
        for k in SIZES:
            self.assertIs(is_bowl(k), True)
            self.assertEqual(checked_bowl(value=k), k)
        for value in ODD + (0, 1, 6, 7, 2.0, "2", (2,), [2], deep_value(5000)):
            self.assertIs(is_bowl(value), False, value)
            self.assertEqual(error_of(checked_bowl, value), ("InvalidBowl", 0))


class RecipeTest(unittest.TestCase):
    def test_ordinary(self):
        rnd = generator(1)
        for k in SIZES:
            for _ in range(200):
                recipe = random_recipe(rnd, k, 3, 4, 0.6)
                self.assertIs(is_recipe(k, 3, recipe), True)
                self.assertIs(checked_recipe(k, 3, recipe), recipe)
                row = [inner for _, inner in walk(recipe) if not isinstance(inner, tuple)]
                self.assertEqual(ingredient_row(recipe), tuple(row))
                self.assertEqual(depth(recipe), max(len(place) for place, _ in walk(recipe)))

    def test_one_ingredient(self):
        self.assertEqual(checked_recipe(k=2, ingredients=1, value=0), 0)
        self.assertEqual(ingredient_row(recipe=11), (11,))
        self.assertEqual(depth(recipe=0), 0)
        self.assertEqual(checked_recipe(5, 12, 11), 11)

    def test_wrong_parts(self):
        for k in SIZES:
            for value in ODD + (3, deep_value(100000), (0,) * (k + 1), (0,) * (k - 1), [0] * k):
                self.assertIs(is_recipe(k, 3, value), False, value)
                self.assertEqual(error_of(checked_recipe, k, 3, value), ("InvalidRecipe", wrong_at(k, value)), value)
                for ahead in range(k):
                    blend = (0,) * ahead + (value,) + (1,) * (k - ahead - 1)
                    at = ahead + wrong_at(k, value)
                    self.assertEqual(error_of(checked_recipe, k, 3, blend), ("InvalidRecipe", at), blend)
                    self.assertIs(is_recipe(k, 3, blend), False)

    def test_first_of_two_wrong_parts(self):
        self.assertEqual(error_of(checked_recipe, 2, 2, ((0, 9), None)), ("InvalidRecipe", 1))
        self.assertEqual(error_of(checked_recipe, 2, 2, ((0, (1, 1)), (None, True))), ("InvalidRecipe", 3))
        self.assertEqual(error_of(checked_recipe, 3, 2, (0, (1, 1), 5)), ("InvalidRecipe", 1))

    def test_bowl_goes_first(self):
        for value in ODD + (0, 1, 6):
            self.assertEqual(error_of(checked_recipe, value, 2, None), ("InvalidBowl", 0))
            self.assertEqual(error_of(checked_recipe, k=value, ingredients=2, value=0), ("InvalidBowl", 0))

    def test_depth_12_and_13(self):
        for k in SIZES:
            self.assertTrue(is_recipe(k, 1, chain(k, 12)))
            self.assertEqual(depth(chain(k, 12)), 12)
            self.assertEqual(error_of(checked_recipe, k, 1, chain(k, 13)), ("InvalidRecipe", 0))
            late = (0,) * (k - 1) + (chain(k, 12),)
            self.assertEqual(error_of(checked_recipe, k, 1, late), ("InvalidRecipe", k - 1))

    def test_2000_and_2001_ingredients(self):
        rnd = generator(2)
        for k in SIZES:
            most = 2000 - (2000 - 1) % (k - 1)
            recipe = grown_recipe(rnd, k, 3, most)
            self.assertEqual(len(ingredient_row(recipe)), most)
            self.assertTrue(is_recipe(k, 3, recipe))
            place = max((place for place, inner in walk(recipe) if inner in (0, 1, 2) and len(place) < 12), key=str)
            more = placed(recipe, place, (0,) * k)
            self.assertIs(is_recipe(k, 3, more), False)
            self.assertEqual(error_of(checked_recipe, k, 3, more), ("InvalidRecipe", 2000))

    def test_too_many_by_sharing(self):
        self.assertEqual(error_of(checked_recipe, 2, 1, nested(12)), ("InvalidRecipe", 2000))
        self.assertEqual(error_of(checked_recipe, 2, 1, nested(60)), ("InvalidRecipe", 0))
        self.assertTrue(is_recipe(2, 1, nested(10)))

    def test_a_wrong_part_ahead_of_the_2001st(self):
        self.assertEqual(error_of(checked_recipe, 2, 1, (nested(10), (nested(9), (nested(8), None)))),
                         ("InvalidRecipe", 1024 + 512 + 256))


def wrong_at(k, value):
    """How many ingredients, below 3, are read ahead of the wrong part of such a value."""
    if not isinstance(value, tuple) or len(value) != k:
        return 0
    at = 0
    for inner in value:
        if isinstance(inner, int) and not isinstance(inner, bool) and 0 <= inner < 3:
            at += 1
        else:
            return at
    return at


class PlaceTest(unittest.TestCase):
    def test_parts(self):
        rnd = generator(3)
        for k in SIZES:
            for _ in range(60):
                recipe = random_recipe(rnd, k, 4, 3, 0.7)
                for place, inner in walk(recipe):
                    self.assertEqual(part(recipe, place), inner)
                    new = random_recipe(rnd, k, 4, 2)
                    done = placed(recipe, place, new)
                    self.assertEqual(part(done, place), new)
                    self.assertEqual(placed(done, place, inner), recipe)
                    aside = [other for other, _ in walk(recipe) if other[:len(place)] != place]
                    for other in aside:
                        if place[:len(other)] != other:
                            self.assertEqual(part(done, other), part(recipe, other))

    def test_whole(self):
        self.assertEqual(part(recipe=(0, 1), place=()), (0, 1))
        self.assertEqual(placed(recipe=(0, 1), place=(), new=5), 5)

    def test_no_places(self):
        recipe = ((0, 1), 2)
        wrong = (2,), (-1,), (0, 2), (1, 0), (0, 0, 0), (True,), (0, False), [0], [], "", None, 0, (0.0,), ("0",), (None,)
        for place in wrong + (deep_value(300), ((0,),), {}, set(), b""):
            self.assertEqual(error_of(part, recipe, place), ("InvalidQuestion", 0), place)
            self.assertEqual(error_of(placed, recipe, place, 0), ("InvalidQuestion", 0), place)
        self.assertEqual(error_of(part, 0, (0,)), ("InvalidQuestion", 0))


if __name__ == "__main__":
    unittest.main()
