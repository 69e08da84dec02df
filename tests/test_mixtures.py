"""Points 7 and 8: mixtures and remainders."""

import math
import unittest
from fractions import Fraction

from mixlabels.mixtures import (
    blended, contained, counts_at, is_mixture, is_modulus, made_mixture, mixture_of, remainders, share,
)
from tests.helpers import ODD, SIZES, all_rows, deep_value, error_of, generator, random_recipe


def shares_of(k, ingredients, recipe):
    if not isinstance(recipe, tuple):
        return [Fraction(int(i == recipe)) for i in range(ingredients)]
    rows = [shares_of(k, ingredients, cup) for cup in recipe]
    return [sum(row[i] for row in rows) / k for i in range(ingredients)]


class MixtureTest(unittest.TestCase):
    def test_of_recipes(self):
        rnd = generator(1)
        for k in SIZES:
            for _ in range(200):
                many = rnd.randrange(1, 5)
                recipe = random_recipe(rnd, k, many, 4)
                mixture = mixture_of(k, many, recipe)
                self.assertTrue(is_mixture(k, many, mixture))
                wanted = shares_of(k, many, recipe)
                n, counts = mixture
                self.assertEqual([Fraction(count, k ** n) for count in counts], wanted)
                self.assertEqual(contained(mixture), tuple(i for i in range(many) if wanted[i]))
                for i in range(many):
                    self.assertEqual(share(k, mixture, i), (wanted[i].numerator, wanted[i].denominator))
                if isinstance(recipe, tuple):
                    self.assertEqual(blended(k, [mixture_of(k, many, cup) for cup in recipe]), mixture)

    def test_examples(self):
        self.assertEqual(mixture_of(k=2, ingredients=2, recipe=(0, (0, 1))), (2, (3, 1)))
        self.assertEqual(mixture_of(2, 3, (1, 1)), (0, (0, 1, 0)))
        self.assertEqual(mixture_of(4, 2, (0, 0, 1, 1)), (1, (2, 2)))
        self.assertEqual(mixture_of(5, 12, 11), (0, (0,) * 11 + (1,)))
        self.assertEqual(blended(k=2, mixtures=((1, (1, 1)), (1, (1, 1)))), (1, (1, 1)))
        self.assertEqual(blended(3, [(0, (1, 0)), (0, (1, 0)), (100, (1, 3 ** 100 - 1))])[0], 101)

    def test_is_mixture(self):
        for k in SIZES:
            for n in range(3):
                for row in all_rows(k ** n, 2):
                    lowest = n == 0 or any(count % k for count in row)
                    self.assertIs(is_mixture(k, 2, (n, row)), lowest)
            self.assertTrue(is_mixture(k, 12, (0, (0,) * 11 + (1,))))
            self.assertTrue(is_mixture(k, 1, (0, (1,))))
            self.assertFalse(is_mixture(k, 1, (1, (k,))))
            self.assertTrue(is_mixture(k, 2, (300, (1, k ** 300 - 1))))
        wrong = [
            (0, [1, 0]), [0, (1, 0)], (0, (1, 0), 0), (0,), (True, (1, 1)), (1, (True, True)), (1, (1, 1.0)), (1, (2, 1)),
            (1, (3, -1)), (-1, (1, 0)), (0.0, (1, 0)), (0, (1,)), (0, (1, 0, 0)), (0, ()), (None, (1, 0)), (0, "10"),
            (10 ** 30, (1, 1)), (10 ** 30, (2, 2)), (1, (2, 0)), (1, (deep_value(200), 1)), (1, ("1", 1)), (0, (0, 0)),
        ]
        for value in wrong + list(ODD):
            self.assertIs(is_mixture(2, 2, value), False, value)

    def test_made(self):
        for k in SIZES:
            for n in range(3):
                for row in all_rows(k ** n, 3):
                    made = made_mixture(k=k, n=n, counts=list(row))
                    self.assertTrue(is_mixture(k, 3, made))
                    self.assertEqual(counts_at(k, made, n), row)
        self.assertEqual(made_mixture(2, 100, [2 ** 99, 2 ** 99]), (1, (1, 1)))

    def test_made_refuses(self):
        for value in ODD:
            if value != 10 ** 30:
                self.assertEqual(error_of(made_mixture, 2, value, [1, 1]), ("InvalidMixture", 0), value)
                self.assertEqual(error_of(made_mixture, 2, value, None), ("InvalidMixture", 0), value)
            if not isinstance(value, (list, tuple)) or len(value) == 0:
                self.assertEqual(error_of(made_mixture, 2, 1, value), ("InvalidMixture", 1), value)
            if value != 10 ** 30:
                self.assertEqual(error_of(made_mixture, 2, 1, [value, value]), ("InvalidMixture", 1), value)
                self.assertEqual(error_of(made_mixture, 2, 1, (1, 0, value, 0)), ("InvalidMixture", 3), value)
        self.assertEqual(error_of(made_mixture, 2, 1, [1, 2]), ("InvalidMixture", 3))
        self.assertEqual(error_of(made_mixture, 2, 0, [0]), ("InvalidMixture", 2))
        self.assertEqual(error_of(made_mixture, 2, 10 ** 30, [1, 1, 0]), ("InvalidMixture", 4))
        self.assertEqual(error_of(made_mixture, 3, 1, [1, 2, None, 5]), ("InvalidMixture", 3))

    def test_share(self):
        mixture = (2, (3, 1, 0))
        self.assertEqual(share(k=2, mixture=mixture, at=0), (3, 4))
        self.assertEqual(share(2, mixture, 2), (0, 1))
        self.assertEqual(share(4, (1, (2, 2)), 1), (1, 2))
        for value in ODD + (3, 1.0):
            self.assertEqual(error_of(share, 2, mixture, value), ("InvalidQuestion", 0), value)

    def test_counts_at(self):
        self.assertEqual(counts_at(k=2, mixture=(1, (1, 1)), n=3), (4, 4))
        self.assertEqual(counts_at(5, (0, (0, 1)), 0), (0, 1))
        self.assertEqual(error_of(counts_at, 2, (2, (3, 1)), 1), ("Refused", 0))
        self.assertEqual(error_of(counts_at, 2, (100, (1, 2 ** 100 - 1)), 99), ("Refused", 0))


class RemaindersTest(unittest.TestCase):
    def test_is_modulus(self):
        for k in SIZES:
            for value in range(-3, 1005):
                self.assertIs(is_modulus(k, value), 1 <= value <= 1000 and math.gcd(value, k) == 1)
            for value in ODD + (1.0, "7", (7,), [7]):
                self.assertIs(is_modulus(k=k, value=value), False)

    def test_remainders(self):
        rnd = generator(4)
        for k in SIZES:
            for modulus in (1, 7, 11, 29, 77, 997):
                for _ in range(30):
                    mixtures = [mixture_of(k, 3, random_recipe(rnd, k, 3, 3)) for _ in range(k)]
                    for n, counts in mixtures:
                        rests = remainders(k=k, mixture=(n, counts), modulus=modulus)
                        self.assertIsInstance(rests, tuple)
                        for rest, count in zip(rests, counts):
                            self.assertTrue(0 <= rest < modulus)
                            self.assertEqual((rest * k ** n - count) % modulus, 0)
                    sums = [sum(column) for column in zip(*(remainders(k, one, modulus) for one in mixtures))]
                    blend = remainders(k, blended(k, mixtures), modulus)
                    self.assertEqual([rest * k % modulus for rest in blend], [total % modulus for total in sums])
        self.assertEqual(remainders(2, (100, (1, 2 ** 100 - 1)), 1), (0, 0))
        self.assertEqual(remainders(2, (1, (1, 1)), 3), (2, 2))


class UnchangedTest(unittest.TestCase):
    def test_lists_can_be_changed(self):
        counts = [1, 1]
        made = made_mixture(2, 1, counts)
        counts[0] = 9
        self.assertEqual(made, (1, (1, 1)))
        mixtures = [(0, (1, 0)), (0, (0, 1))]
        self.assertEqual(blended(2, mixtures), (1, (1, 1)))
        self.assertEqual(mixtures, [(0, (1, 0)), (0, (0, 1))])


if __name__ == "__main__":
    unittest.main()
