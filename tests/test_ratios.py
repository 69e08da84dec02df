"""Point 5: fractions."""

import unittest
from fractions import Fraction

from mixlabels.ratios import added, compared, is_fraction, less, made, times
from tests.helpers import ODD, deep_value, error_of, generator


class RatiosTest(unittest.TestCase):
    def test_is_fraction(self):
        for value in ((0, 1), (1, 1), (-1, 2), (3, 7), (10 ** 40, 3), (-5, 1), (7, 10 ** 30)):
            self.assertIs(is_fraction(value), True, value)
        wrong = [
            (0, 2), (2, 4), (1, 0), (0, 0), (1, -2), (-1, -2), (1, 2, 3), (1,), (), [1, 2], (True, 2), (1, True),
            (1.0, 2), ("1", 2), (None, 1), ((1, 2), 1), deep_value(500), (3, 3), (0, -1),
        ]
        for value in wrong + list(ODD):
            self.assertIs(is_fraction(value), False, value)

    def test_made(self):
        self.assertEqual(made(2, 4), (1, 2))
        self.assertEqual(made(-2, 4), (-1, 2))
        self.assertEqual(made(2, -4), (-1, 2))
        self.assertEqual(made(-2, -4), (1, 2))
        self.assertEqual(made(0, -9), (0, 1))
        self.assertEqual(made(top=10 ** 40, bottom=10 ** 39), (10, 1))
        for top in (0, 1, -3):
            self.assertEqual(error_of(made, top, 0), ("InvalidQuestion", 1))

    def test_sums(self):
        rnd = generator(5)
        for _ in range(500):
            a, b = [Fraction(rnd.randrange(-40, 40), rnd.randrange(1, 30)) for _ in range(2)]
            one, other = (a.numerator, a.denominator), (b.numerator, b.denominator)
            for work, wanted in ((added, a + b), (less, a - b), (times, a * b)):
                got = work(one, other)
                self.assertEqual(got, (wanted.numerator, wanted.denominator))
                self.assertTrue(is_fraction(got))
                self.assertEqual(work(one=one, other=other), got)
            self.assertEqual(compared(one, other), (a > b) - (a < b))
        self.assertEqual(compared((1, 3), (1, 3)), 0)
        self.assertEqual(compared(one=(10 ** 30, 3), other=(10 ** 30 + 1, 3)), -1)


if __name__ == "__main__":
    unittest.main()
