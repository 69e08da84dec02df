"""Point 58: what recipes cost at least."""

import itertools
import unittest
from fractions import Fraction

from mixlabels.costs import cheapest_recipe, costs, is_costs
from mixlabels.recipes import depth, is_recipe
from mixlabels.tables import Table
from mixlabels.tasting import label_of
from mixlabels.wheels import labels_in
from tests.faithful import drawn_faithful
from tests.helpers import (
    NO_SEQUENCES, ODD, SIZES, deep_value, error_of, first_table, generator, least_table, random_recipe,
    random_table,
)
from tests.test_prices import all_cups, drawn_prices, drawn_table

SMALL = {2: 10, 3: 6, 4: 5, 5: 4}


def pair(number):
    number = Fraction(number)
    return number.numerator, number.denominator


def cost_of(k, prices, recipe):
    if not isinstance(recipe, tuple):
        return Fraction(prices[recipe])
    return sum(cost_of(k, prices, cup) for cup in recipe) / k


def least_to(table, prices, deepest):
    """For each depth the least cost of recipes that are at most so deep, for each label."""
    rows = [[Fraction(price) for price in prices]]
    for _ in range(deepest):
        row = list(rows[-1])
        for cups in all_cups(table):
            label = table.blend(cups)
            row[label] = min(row[label], sum(rows[-1][cup] for cup in cups) / table.k)
        rows.append(row)
    return rows


def plainly_costs(table, prices, row, ways):
    """Whether a row and ways are right, by the three conditions."""
    for cups in all_cups(table):
        if table.k * row[table.blend(cups)] > sum(row[cup] for cup in cups):
            return False
    for a, way in enumerate(ways):
        if row[a] > prices[a] or way is None and row[a] != prices[a]:
            return False
        if way is not None and (table.blend(way) != a or table.k * row[a] != sum(row[cup] for cup in way)):
            return False
    ending = {a for a, way in enumerate(ways) if way is None}
    for _ in ways:
        ending |= {a for a, way in enumerate(ways) if way is not None and ending & set(way)}
    return len(ending) == len(ways)


class CostTest(unittest.TestCase):
    def test_conditions(self):
        rnd = generator(1)
        for k in SIZES:
            for _ in range(40):
                table = drawn_table(rnd, k)
                prices = drawn_prices(rnd, table.labels)
                told = costs(table=table, prices=prices)
                row, ways = told
                self.assertIsInstance(row, tuple)
                self.assertTrue(plainly_costs(table, prices, [Fraction(*number) for number in row], ways))
                self.assertIs(is_costs(table=table, prices=tuple(prices), value=told), True)

    def test_no_recipe_costs_less(self):
        rnd = generator(2)
        for k in SIZES:
            for _ in range(12):
                table = drawn_table(rnd, k)
                prices = drawn_prices(rnd, table.labels)
                row = [Fraction(*number) for number in costs(table, prices)[0]]
                for _ in range(15):
                    recipe = random_recipe(rnd, k, table.labels, 4)
                    label = label_of(table, list(range(table.labels)), recipe)
                    self.assertGreaterEqual(cost_of(k, prices, recipe), row[label])
                if table.labels <= SMALL[k]:
                    rows = least_to(table, prices, 14)
                    for label, number in enumerate(row):
                        self.assertGreaterEqual(rows[-1][label], number)

    def test_recipes_come_near(self):
        rnd = generator(3)
        for k in SIZES:
            for _ in range(6):
                table = random_table(rnd, k, rnd.randrange(2, 4))
                prices = drawn_prices(rnd, table.labels)
                row = [Fraction(*number) for number in costs(table, prices)[0]]
                now = [Fraction(price) for price in prices]
                for _ in range(80):
                    now = least_to(table, now, 1)[1]
                    now = [Fraction(-((-number * 10 ** 12) // 1), 10 ** 12) for number in now]
                for near, number in zip(now, row):
                    self.assertLess(near - number, Fraction(1, 100))

    def test_faithful_tables(self):
        rnd = generator(4)
        for k in SIZES:
            for _ in range(8):
                table = drawn_faithful(rnd, k)
                prices = drawn_prices(rnd, table.labels)
                wanted = tuple((min(prices[b] for b in labels_in(table, a)), 1) for a in range(table.labels))
                self.assertEqual(costs(table, prices)[0], wanted)

    def test_examples(self):
        self.assertEqual(costs(least_table(2, 2), [0, 5]), (((0, 1), (5, 1)), (None, None)))
        self.assertEqual(costs(least_table(2, 2), [5, 0])[0], ((0, 1), (0, 1)))
        self.assertEqual(error_of(cheapest_recipe, least_table(2, 2), [5, 0], 0), ("Refused", 0))
        table = Table(2, 3, [0, 2, 0, 0, 0, 0, 0, 0, 0])
        self.assertEqual(costs(table, [0, 6, 100])[0][2], (3, 1))
        self.assertEqual(cheapest_recipe(table, [0, 6, 100], 2), (0, 1))
        self.assertEqual(costs(table, [0, 5, 100])[0], ((0, 1), (5, 1), (5, 2)))
        self.assertEqual(cheapest_recipe(table, [0, 5, 100], 2), (0, 1))
        self.assertEqual(cheapest_recipe(table, [0, 5, 100], 1), 1)
        loop = Table(2, 2, [1, 0, 0, 0])
        self.assertEqual(costs(loop, [9, 0])[0], ((0, 1), (0, 1)))
        self.assertEqual(cheapest_recipe(loop, [9, 0], 0), (1, 1))
        for k in SIZES:
            self.assertEqual(costs(Table(k, 1, [0]), [-1000]), (((-1000, 1),), (None,)))
            self.assertEqual(cheapest_recipe(Table(k, 1, [0]), [1000], 0), 0)
            self.assertEqual(costs(first_table(k, 3), [4, 4, 4])[0], ((4, 1),) * 3)


class IsCostsTest(unittest.TestCase):
    def test_each_part_changed(self):
        rnd = generator(5)
        for k in SIZES:
            for _ in range(25):
                table = drawn_table(rnd, k)
                prices = drawn_prices(rnd, table.labels)
                row, ways = costs(table, prices)
                for _ in range(6):
                    numbers, other = [Fraction(*number) for number in row], list(ways)
                    at = rnd.randrange(table.labels)
                    if rnd.random() < 0.4:
                        numbers[at] = rnd.choice([numbers[at] + 1, numbers[at] - 1, numbers[at] / 2, Fraction(prices[at])])
                    else:
                        other[at] = rnd.choice([None, tuple(rnd.randrange(table.labels) for _ in range(k)), (at,) * k])
                    value = tuple(pair(number) for number in numbers), tuple(other)
                    self.assertIs(is_costs(table, prices, value), plainly_costs(table, prices, numbers, other))

    def test_each_condition_alone(self):
        for k in SIZES:
            table = least_table(k, 2)
            up, down = (0,) * (k - 1) + (1,), (1,) * k
            self.assertIs(is_costs(table, [0, 5], (((0, 1), (5, 1)), (None, None))), True)
            # Beyond a price; k times that of a blend above its cups, by one; not the price; not that of the way.
            self.assertIs(is_costs(table, [0, 5], (((5, 1), (5, 1)), (up, None))), False)
            self.assertIs(is_costs(table, [1, 0], (((1, 1), (0, 1)), (None, None))), False)
            self.assertIs(is_costs(table, [0, 5], (((0, 1), (4, 1)), (None, None))), False)
            self.assertIs(is_costs(table, [1, 5], (((0, 1), (4, 1)), (None, down))), False)
            self.assertIs(is_costs(table, [5, 0], (((0, 1), (0, 1)), (up, None))), True)
            self.assertIs(is_costs(table, [5, 0], (((0, 1), (0, 1)), (down, None))), False)

    def test_ways_must_end(self):
        for k in SIZES:
            table = Table(k, 1, [0])
            self.assertIs(is_costs(table, [5], (((5, 1),), (None,))), True)
            self.assertIs(is_costs(table, [5], (((5, 1),), ((0,) * k,))), False)
            self.assertIs(is_costs(table, [5], (((4, 1),), ((0,) * k,))), False)
        table = Table(2, 3, [1, 1, 1, 0, 0, 0, 2, 2, 2])
        row = ((0, 1),) * 3
        self.assertIs(is_costs(table, [0, 0, 0], (row, ((1, 0), (0, 0), None))), False)
        self.assertIs(is_costs(table, [0, 0, 0], (row, ((1, 0), None, None))), True)
        self.assertIs(is_costs(table, [0, 0, 0], (row, ((1, 0), (0, 2), None))), True)
        self.assertIs(is_costs(table, [0, 0, 0], (row, ((1, 0), (0, 0), (2, 0)))), False)

    def test_any_value(self):
        table, prices = least_table(2, 2), [5, 0]
        good = (((0, 1), (0, 1)), ((0, 1), None))
        self.assertIs(is_costs(table, prices, good), True)
        self.assertIs(is_costs(table, prices, (good[0], ((1, 0), None))), True)
        wrong = [
            list(good), (list(good[0]), good[1]), (good[0], list(good[1])), good[:1], good + (0,), (good[1], good[0]),
            (((0, 1),), good[1]), (((0, 1),) * 3, good[1]), (([0, 1], (0, 1)), good[1]), (((0, 2), (0, 1)), good[1]),
            (((0, -1), (0, 1)), good[1]), ((0, (0, 1)), good[1]), (((False, 1), (0, 1)), good[1]),
            (((0, True), (0, 1)), good[1]), (((0, 1, 1), (0, 1)), good[1]), ((None, (0, 1)), good[1]),
            (good[0], ([0, 1], None)), (good[0], ((0, 1, 1), None)), (good[0], ((0,), None)), (good[0], ((0, True), None)),
            (good[0], ((0, 2), None)), (good[0], (0, None)), (good[0], ((0, 1),)), (good[0], ((0, 1), False)),
            (good[0], (None, None)), (good[0], ((0, 1), (1, 1))), deep_value(100), (good[0], None), (None, good[1]),
            (((0, 1), (-1, 1)), good[1]), (((-1, 1), (0, 1)), good[1]), (((0, 1.0), (0, 1)), good[1]),
        ]
        for value in wrong + list(ODD):
            self.assertIs(is_costs(table, prices, value), False, value)


class CheapestTest(unittest.TestCase):
    def test_recipes(self):
        rnd = generator(6)
        kinds = set()
        for k in SIZES:
            for _ in range(30):
                table = drawn_table(rnd, k)
                if k ** table.labels > 2000:
                    continue
                prices = drawn_prices(rnd, table.labels)
                row = [Fraction(*number) for number in costs(table, prices)[0]]
                rows = least_to(table, prices, table.labels + 2)
                for label in range(table.labels):
                    kinds.add(rows[-1][label] == row[label])
                    if rows[-1][label] > row[label]:
                        self.assertEqual(error_of(cheapest_recipe, table, prices, label), ("Refused", 0))
                        continue
                    recipe = cheapest_recipe(table=table, prices=prices, label=label)
                    self.assertTrue(is_recipe(k, table.labels, recipe))
                    self.assertLessEqual(depth(recipe), 12)
                    self.assertEqual(label_of(table, list(range(table.labels)), recipe), label)
                    self.assertEqual(cost_of(k, prices, recipe), row[label])
        self.assertEqual(kinds, {True, False})

    def test_deep_recipes(self):
        for k, labels in ((2, 10), (3, 6), (4, 5), (5, 3)):
            # Each label comes from the one before it alone.
            results = []
            for cups in itertools.product(range(labels), repeat=k):
                results.append(min(cups[0] + 1, labels - 1) if len(set(cups)) == 1 else 0)
            table = Table(k, labels, results)
            prices = [0] + [50 + 7 * at for at in range(1, labels)]
            self.assertEqual(costs(table, prices)[0], ((0, 1),) * labels)
            for label in range(labels):
                recipe = cheapest_recipe(table, prices, label)
                self.assertTrue(is_recipe(k, labels, recipe))
                self.assertEqual((depth(recipe), cost_of(k, prices, recipe)), (label, 0))
                self.assertEqual(label_of(table, list(range(labels)), recipe), label)


class ErrorTest(unittest.TestCase):
    def test_prices(self):
        for k in SIZES:
            table = least_table(k, 3)
            for work, more in ((costs, ()), (is_costs, (None,)), (cheapest_recipe, (0,))):
                for value in NO_SEQUENCES + ([], [1, 2], [1, 2, 3, 4]):
                    self.assertEqual(error_of(work, table, value, *more), ("InvalidPrices", 3), value)
                for value in (None, True, "5", b"", 1.0, (1, 1), [], {}, deep_value(30)):
                    self.assertEqual(error_of(work, table, [1, value, None], *more), ("InvalidPrices", 1), value)
                    self.assertEqual(error_of(work, table, [1, 2, 3, value], *more), ("InvalidPrices", 3), value)

    def test_later_changes(self):
        prices = [5, 0]
        told = costs(least_table(2, 2), prices)
        prices[1] = 9
        self.assertEqual(told[0], ((0, 1), (0, 1)))


if __name__ == "__main__":
    unittest.main()
