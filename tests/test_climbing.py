"""Point 54: ladders above one another."""

import itertools
import unittest

from mixlabels.climbing import (
    climb, excess, greatest_below, just_above, just_below, least_above, outline_of_sway, sway,
)
from mixlabels.ladders import ladder_table
from mixlabels.outlines import outline_for
from tests.helpers import NO_SEQUENCES, ODD, deep_value, error_of, generator
from tests.test_ladders import all_outlines, drawn_outline, plain_leader


def plain_excess(one, other):
    for x, y in itertools.combinations(range(len(one)), 2):
        if plain_leader(one, x, y) > plain_leader(other, x, y):
            return x, y
    return None


def plain_sway(outline):
    return tuple(sum(plain_leader(outline, x, y) == y for x in range(y)) for y in range(len(outline)))


def first_no_sway(numbers):
    for y, value in enumerate(numbers):
        if not 0 <= value <= y or any(w - numbers[w] < y - value for w in range(y - value, y + 1)):
            return y
    return None


class OrderTest(unittest.TestCase):
    @classmethod
    def setUpClass(cls):
        cls.rows = {n: sorted(all_outlines(n)) for n in range(1, 7)}
        cls.below = {}
        for row in cls.rows.values():
            for one, other in itertools.product(row, repeat=2):
                cls.below[one, other] = plain_excess(one, other) is None

    def test_excess_and_sway(self):
        for one, other in self.below:
            told = excess(one=one, other=other)
            self.assertEqual(told, plain_excess(one, other))
            self.assertEqual(told is None, all(a <= b for a, b in zip(sway(outline=one), sway(outline=other))))
        for row in self.rows.values():
            for outline in row:
                self.assertEqual(sway(outline), plain_sway(outline))
                self.assertEqual(outline_of_sway(numbers=sway(outline)), outline)
                self.assertEqual(outline_of_sway(list(sway(outline))), outline)

    def test_at_most_is_about_all_blends(self):
        for k, n in ((2, 4), (3, 4), (4, 4), (5, 3)):
            tables = {outline: ladder_table(k, outline).results for outline in self.rows[n]}
            for one, other in itertools.product(self.rows[n], repeat=2):
                at_most = all(a <= b for a, b in zip(tables[one], tables[other]))
                self.assertEqual(excess(one, other) is None, at_most)

    def test_meets_and_joins(self):
        for n, row in self.rows.items():
            pairs = list(itertools.product(row, repeat=2))
            for one, other in pairs if n < 6 else generator(1).sample(pairs, 1500):
                lower = [outline for outline in row if self.below[outline, one] and self.below[outline, other]]
                upper = [outline for outline in row if self.below[one, outline] and self.below[other, outline]]
                low, high = greatest_below(one=one, other=other), least_above(one=one, other=other)
                self.assertIn(low, lower)
                self.assertIn(high, upper)
                self.assertTrue(all(self.below[outline, low] for outline in lower))
                self.assertTrue(all(self.below[high, outline] for outline in upper))

    def test_just_above_and_below(self):
        for n, row in self.rows.items():
            for outline in row:
                above = [other for other in row if self.below[outline, other] and other != outline]
                below = [other for other in row if self.below[other, outline] and other != outline]
                wanted = [one for one in above if not any(self.below[other, one] and other != one for other in above)]
                self.assertEqual(just_above(outline=outline), tuple(wanted))
                wanted = [one for one in below if not any(self.below[one, other] and other != one for other in below)]
                self.assertEqual(just_below(outline=outline), tuple(wanted))
                self.assertEqual(len(just_above(outline)) + len(just_below(outline)), n - 1)

    def test_one_label_changes_into_one(self):
        for n, row in self.rows.items():
            for one in row:
                for other in row:
                    if one != other and self.below[one, other]:
                        pairs = itertools.combinations(range(n), 2)
                        told = {(plain_leader(one, x, y), plain_leader(other, x, y)) for x, y in pairs}
                        changed = [pair for pair in told if pair[0] != pair[1]]
                        self.assertEqual(other in just_above(one), len(changed) == 1)

    def test_climbs(self):
        for n, row in self.rows.items():
            pairs = list(itertools.product(row, repeat=2))
            for one, other in pairs if n < 6 else generator(2).sample(pairs, 1500):
                if self.below[one, other]:
                    self.check_climb(one, other)
                else:
                    self.assertEqual(error_of(climb, one, other), ("Refused", 0))
            self.assertEqual(climb(row[0], row[0]), (row[0],))

    def check_climb(self, one, other):
        told = climb(one=one, other=other)
        self.assertIsInstance(told, tuple)
        self.assertEqual((told[0], told[-1]), (one, other))
        for low, high in zip(told, told[1:]):
            self.assertIn(high, just_above(low))

    def test_forty_labels(self):
        rnd = generator(3)
        rising, falling = tuple(range(40)), tuple(reversed(range(40)))
        self.assertEqual((sway(rising), sway(falling)), ((0,) * 40, tuple(range(40))))
        self.check_climb(rising, falling)
        self.assertEqual(error_of(climb, falling, rising), ("Refused", 0))
        self.assertEqual(excess(falling, rising), (0, 1))
        for _ in range(6):
            one, other = drawn_outline(rnd, 40), drawn_outline(rnd, 40)
            low, high = greatest_below(one, other), least_above(one, other)
            self.assertEqual(sway(low), tuple(min(a, b) for a, b in zip(plain_sway(one), plain_sway(other))))
            for outline in (one, other):
                self.assertIsNone(excess(low, outline))
                self.assertIsNone(excess(outline, high))
                self.check_climb(low, outline)
                self.check_climb(outline, high)
                self.assertEqual(outline_of_sway(plain_sway(outline)), outline)
                self.assertEqual(len(just_above(outline)) + len(just_below(outline)), 39)
                for near in just_above(outline):
                    self.assertIn(outline, just_below(near))
            self.assertEqual(excess(one, other), plain_excess(one, other))

    def test_equal_and_one_label(self):
        for outline in ((0,), (1, 0), (2, 0, 1)):
            self.assertIsNone(excess(outline, outline))
            self.assertEqual(greatest_below(outline, outline), outline)
            self.assertEqual(least_above(outline, outline), outline)
            self.assertEqual(climb(outline, outline), (outline,))
        self.assertEqual((just_above((0,)), just_below((0,)), sway((0,))), ((), (), (0,)))
        self.assertEqual((just_above((0, 1)), just_below((0, 1))), (((1, 0),), ()))
        self.assertEqual(excess((1, 0, 2), (0, 1, 2)), (0, 1))


class SwayTest(unittest.TestCase):
    def test_all_tuples(self):
        for n in range(1, 6):
            for numbers in itertools.product(range(-1, n + 1), repeat=n):
                wrong = first_no_sway(numbers)
                if wrong is None:
                    self.assertEqual(plain_sway(outline_of_sway(numbers)), numbers)
                else:
                    self.assertEqual(error_of(outline_of_sway, numbers), ("Refused", wrong))

    def test_any_value(self):
        for value in NO_SEQUENCES + ([], ()):
            self.assertEqual(error_of(outline_of_sway, value), ("Refused", 0), value)
        for value in ODD + (3, 2.0):
            self.assertEqual(error_of(outline_of_sway, [0, 0, value]), ("Refused", 2), value)
            self.assertEqual(error_of(outline_of_sway, (0, value, None)), ("Refused", 1), value)
            self.assertEqual(error_of(outline_of_sway, (value,)), ("Refused", 0), value)
            self.assertEqual(error_of(outline_of_sway, (0, 1, 1, value)), ("Refused", 2), value)
        self.assertEqual(error_of(outline_of_sway, deep_value(100)), ("Refused", 0))

    def test_later_changes(self):
        numbers = [0, 1, 0]
        told = outline_of_sway(numbers)
        numbers[1] = 0
        self.assertEqual(told, outline_for([1, 0, 2]))


if __name__ == "__main__":
    unittest.main()
