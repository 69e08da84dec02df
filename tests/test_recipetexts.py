"""Point 11: recipes as texts."""

import unittest

from mixlabels.recipes import is_recipe
from mixlabels.recipetexts import read_recipe, recipe_text
from tests.helpers import ODD, SIZES, all_recipes, error_of, generator, grown_recipe, random_recipe
from tests.test_recipes import chain


class RecipeTextTest(unittest.TestCase):
    def test_examples(self):
        self.assertEqual(recipe_text(recipe=(0, (1, 0))), "(0 (1 0))")
        self.assertEqual(recipe_text(11), "11")
        self.assertEqual(read_recipe(k=2, ingredients=2, text="(0 (1 0))"), (0, (1, 0)))
        self.assertEqual(read_recipe(3, 12, "(10 (1 11 0) 2)"), (10, (1, 11, 0), 2))

    def test_back_and_forth(self):
        rnd = generator(1)
        for k in SIZES:
            for many in (1, 2, 10, 11, 12):
                for _ in range(40):
                    recipe = random_recipe(rnd, k, many, 4)
                    if len(recipe_text(recipe)) <= 2000:
                        self.assertEqual(read_recipe(k, many, recipe_text(recipe)), recipe)
            deep = chain(k, 12)
            self.assertEqual(read_recipe(k, 1, recipe_text(deep)), deep)

    def test_each_text_of_few_signs(self):
        texts = {recipe_text(recipe) for recipe in all_recipes(2, 2, 2)}
        rnd = generator(2)
        for _ in range(5000):
            text = list(rnd.choice(sorted(texts)))
            for _ in range(rnd.randrange(1, 3)):
                at = rnd.randrange(len(text) + 1)
                text[at:at + rnd.randrange(2)] = rnd.choice(["", "(", ")", " ", "0", "1", "2", "x"])
            self.check("".join(text))

    def check(self, text):
        """Holds what is told against all beginnings of the text."""
        begun = [at for at in range(len(text) + 1) if self.parses(text[:at])]
        told = error_of(read_recipe, 2, 2, text)
        if told is None:
            recipe = read_recipe(2, 2, text)
            self.assertTrue(is_recipe(2, 2, recipe))
            self.assertEqual(recipe_text(recipe), text)
        else:
            self.assertEqual(told, ("InvalidText", max(begun)), text)

    def parses(self, text):
        """A beginning by the words of the grammar: cups are counted in each open blend."""
        counts, at, wants_part = [], 0, True
        while at < len(text):
            sign = text[at]
            if wants_part and sign == "(":
                counts.append(0)
            elif wants_part and sign in "01":
                wants_part = False
                if counts:
                    counts[-1] += 1
            elif not wants_part and counts and sign == (" " if counts[-1] < 2 else ")"):
                if sign == " ":
                    wants_part = True
                else:
                    counts.pop()
                    if counts:
                        counts[-1] += 1
            else:
                return False
            at += 1
        return True

    def test_where_it_goes_wrong(self):
        cases = {
            "": 0, "0 ": 1, "00": 1, "2": 0, "x": 0, " 0": 0, "(": 1, "(0": 2, "(0 ": 3, "(0 1": 4, "(0 1)": None,
            "(0 1))": 5, "(0  1)": 3, "( 0 1)": 1, "(0)": 2, "(0 1 0)": 4, "(0 2)": 3, "(0 01)": 4, "((0 0) 1": 8,
            "(0 1)\n": 5, "()": 1, "(0,1)": 2, "-1": 0, "+1": 0, "0_0": 1, "\u0661": 0, "1\u00b2": 1, "(0\t1)": 2,
        }
        for text, at in cases.items():
            self.assertEqual(error_of(read_recipe, 2, 2, text), None if at is None else ("InvalidText", at), text)

    def test_numbers_of_two_digits(self):
        self.assertEqual(error_of(read_recipe, 2, 12, "12"), ("InvalidText", 1))
        self.assertEqual(error_of(read_recipe, 2, 11, "11"), ("InvalidText", 1))
        self.assertEqual(read_recipe(2, 11, "10"), 10)
        self.assertEqual(error_of(read_recipe, 2, 10, "10"), ("InvalidText", 1))
        self.assertEqual(error_of(read_recipe, 2, 12, "(1"), ("InvalidText", 2))
        self.assertEqual(error_of(read_recipe, 2, 12, "(13 0)"), ("InvalidText", 2))
        self.assertEqual(error_of(read_recipe, 2, 12, "(110 0)"), ("InvalidText", 3))
        self.assertEqual(error_of(read_recipe, 2, 1, "1"), ("InvalidText", 0))

    def test_too_deep(self):
        for k in SIZES:
            text = recipe_text(chain(k, 13))
            self.assertEqual(error_of(read_recipe, k, 1, text), ("InvalidText", 12))
            self.assertEqual(error_of(read_recipe, k, 1, "(" * 2000), ("InvalidText", 12))
            self.assertEqual(error_of(read_recipe, k, 1, "(" * 12), ("InvalidText", 12))

    def test_2000_ingredients_and_more(self):
        rnd = generator(3)
        for k in SIZES:
            most = 2000 - (2000 - 1) % (k - 1)
            recipe = grown_recipe(rnd, k, 3, most)
            self.assertEqual(read_recipe(k, 3, recipe_text(recipe)), recipe)
            text = recipe_text(grown_recipe(rnd, k, 3, most + k - 1))
            # With this blend any recipe would have too many ingredients.
            blends = [at for at, sign in enumerate(text) if sign == "("]
            wrong = blends[(most - 1) // (k - 1)]
            self.assertEqual(error_of(read_recipe, k, 3, text), ("InvalidText", wrong))

    def test_no_strings(self):
        for value in ODD + (["0"], ("0",)):
            if not isinstance(value, str):
                self.assertEqual(error_of(read_recipe, 2, 2, value), ("InvalidText", 0), value)


if __name__ == "__main__":
    unittest.main()
