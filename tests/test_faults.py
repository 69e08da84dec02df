"""Points 14 and 15: the three rules, and recipes that show that one is broken."""

import itertools
import unittest

from mixlabels.combining import mean_table, part_table
from mixlabels.faults import columns, fault, is_fault, is_two_recipes, two_recipes
from mixlabels.mixtures import mixture_of
from mixlabels.recipes import depth, is_recipe
from mixlabels.tables import Table
from mixlabels.tasting import label_of
from tests.helpers import (
    NO_SEQUENCES, ODD, SIZES, all_recipes, calm_table, deep_value, error_of, first_table, generator, least_table,
    most_labels, nested, random_table,
)


def first_plain_fault(table):
    """The first fault against the first two rules, by their words."""
    for a in range(table.labels):
        if table.blend((a,) * table.k) != a:
            return "same", a
    for cups in itertools.product(range(table.labels), repeat=table.k):
        for i in range(table.k - 1):
            other = list(cups)
            other[i], other[i + 1] = cups[i + 1], cups[i]
            if table.blend(other) != table.blend(cups):
                return "order", cups, i
    return None


def breaks(table, rows):
    one = table.blend([table.blend(row) for row in rows])
    return one != table.blend([table.blend(column) for column in zip(*rows)])


def some_grid(table):
    rows = list(itertools.product(range(table.labels), repeat=table.k))
    for grid in itertools.product(rows, repeat=table.k):
        if breaks(table, grid):
            return grid
    return None


class FaultTest(unittest.TestCase):
    def check(self, table):
        told = fault(table=table)
        plain = first_plain_fault(table)
        if plain is not None:
            self.assertEqual(told, plain)
        elif some_grid(table) is None:
            self.assertIsNone(told)
        else:
            self.assertEqual(told[0], "grid")
            self.assertTrue(breaks(table, told[1]))
        self.assertIs(is_fault(table=table, value=told), told is not None)

    def test_against_the_words(self):
        rnd = generator(1)
        for k, labels, many in ((2, 1, 1), (2, 2, 60), (2, 3, 150), (2, 4, 25), (3, 2, 40), (3, 3, 2), (4, 2, 6), (5, 1, 1)):
            for _ in range(many):
                self.check(random_table(rnd, k, labels))
                self.check(calm_table(rnd, k, labels))
                self.check(calm_table(rnd, k, labels, False))
        for _ in range(8):
            told = fault(calm_table(rnd, 5, 3))
            self.assertEqual(told[0], "grid")

    def test_faithful_and_great(self):
        for k in SIZES:
            self.assertIsNone(fault(least_table(k, most_labels(k))))
            self.assertIsNone(fault(Table(k, 1, [0])))
            self.assertEqual(fault(first_table(k, 2))[0], "order")
            size = {2: 11, 3: 8, 4: 5, 5: 3}[k]
            self.assertIsNone(fault(mean_table(k, size)))
            results = list(least_table(k, most_labels(k)).results)
            results[-1] = 0
            self.assertEqual(fault(Table(k, most_labels(k), results)), ("same", most_labels(k) - 1))

    def test_first_order_fault(self):
        for k in SIZES:
            results = list(least_table(k, 2).results)
            results[-2] = 1
            cups = (1,) * (k - 2) + (0, 1)
            self.assertEqual(fault(Table(k, 2, results)), ("order", cups, k - 2))

    def test_one_wrong_grid(self):
        table = Table(2, 3, [0, 1, 2, 1, 1, 0, 2, 0, 2])
        told = fault(table)
        self.assertEqual(told[0], "grid")
        self.assertTrue(breaks(table, told[1]))
        rnd = generator(2)
        for k in SIZES:
            table = calm_table(rnd, k, most_labels(k))
            self.assertEqual(fault(table)[0], "grid")
            self.assertTrue(is_fault(table, fault(table)))
            self.assertTrue(breaks(table, fault(table)[1]))

    def test_is_fault_tells_all(self):
        rnd = generator(3)
        for _ in range(30):
            table = random_table(rnd, 2, 3)
            for a in range(-1, 4):
                shows = 0 <= a < 3 and table.blend((a, a)) != a
                self.assertIs(is_fault(table, ("same", a)), shows)
            for cups in itertools.product(range(4), repeat=2):
                shows = max(cups) < 3 and table.blend(cups) != table.blend(cups[::-1])
                self.assertIs(is_fault(table, ("order", cups, 0)), shows)
                self.assertIs(is_fault(table, ("order", cups, 1)), False)
                self.assertIs(is_fault(table, ("order", list(cups), 0)), False)
            for row in itertools.product(range(3), repeat=4):
                grid = (row[:2], row[2:])
                self.assertIs(is_fault(table, ("grid", grid)), breaks(table, grid))
                self.assertIs(is_fault(table, ("grid", list(grid))), False)
                self.assertIs(is_fault(table, ("grid", (list(row[:2]), row[2:]))), False)

    def test_is_fault_any_value(self):
        table = Table(2, 2, [1, 0, 1, 0])
        self.assertTrue(is_fault(table, ("same", 0)))
        self.assertTrue(is_fault(table, ("order", (0, 1), 0)))
        wrong = [
            ["same", 0], ("same",), ("same", 0, 0), ("same", False), ("same", 0.0), ("same", (0,)), ("same", None),
            ("order", (0, 1)), ("order", (0, 1), False), ("order", (0, 1), -1), ("order", (0, 1, 0), 0),
            ("order", (False, True), 0), ("order", "01", 0), ("order", None, 0), ("grid", None), ("grid", ()),
            ("grid", ((0, 1),)), ("grid", ((0, 1), (0,))), ("grid", ((0, 2), (0, 1))), ("grid", (None, (0, 1))),
            ("order", (0, 1), 0, 0), (b"same", 0), ("Same", 0), (0, 0), ("grid",), ("order",), deep_value(400), ("same", deep_value(400)),
        ]
        for value in wrong + list(ODD):
            self.assertIs(is_fault(table, value), False, value)

    def test_words_of_faults(self):
        table = calm_table(generator(8), 2, 12)
        word, rows = fault(table)
        self.assertTrue(is_fault(table, (word, rows)))
        for value in (("rows", rows), ("grid", rows, 0), ("same", rows), ("order", rows), ("grid", rows + rows)):
            self.assertIs(is_fault(table, value), False)

    def test_columns(self):
        self.assertEqual(columns(rows=((0, 1), (2, 3))), ((0, 2), (1, 3)))
        self.assertEqual(columns((("a", None, 1), (2, 3, 4), ((), 5, 6))), (("a", 2, ()), (None, 3, 5), (1, 4, 6)))


class TwoRecipesTest(unittest.TestCase):
    def test_against_fault(self):
        rnd = generator(4)
        for k in SIZES:
            for labels in range(1, {2: 5, 3: 4, 4: 4, 5: 3}[k] + 1):
                for _ in range(40):
                    table = rnd.choice([random_table, calm_table])(rnd, k, labels)
                    naming = [rnd.randrange(labels) for _ in range(rnd.randrange(1, 5))]
                    self.check(table, naming)
            self.check(least_table(k, 3), (0, 1, 2))

    def check(self, table, naming):
        told = two_recipes(table=table, naming=naming)
        self.assertIs(is_two_recipes(table, naming, told), told is not None)
        if fault(part_table(table, naming)) is None:
            self.assertIsNone(told)
            return
        one, other = told
        many = len(naming)
        self.assertTrue(is_recipe(table.k, many, one) and is_recipe(table.k, many, other))
        self.assertEqual(mixture_of(table.k, many, one), mixture_of(table.k, many, other))
        self.assertNotEqual(label_of(table, naming, one), label_of(table, naming, other))
        self.assertLessEqual(max(depth(one), depth(other)), table.labels + 1)

    def test_limit(self):
        self.assertIsNotNone(two_recipes(first_table(2, 9), [0, 1]))
        for value in ([0, 1], None, [99]):
            self.assertEqual(error_of(two_recipes, first_table(2, 10), value), ("Refused", 0))
            self.assertEqual(error_of(two_recipes, first_table(3, 6), value), ("Refused", 0))
            self.assertEqual(error_of(two_recipes, first_table(4, 5), value), ("Refused", 0))
        self.assertIsNotNone(two_recipes(first_table(3, 5), [4, 1]))
        self.assertIsNotNone(two_recipes(first_table(4, 4), [3, 1]))
        self.assertIsNotNone(two_recipes(first_table(5, 3), [2, 1]))
        self.assertTrue(is_two_recipes(first_table(2, 12), [0, 11], ((0, 1), (1, 0))))

    def test_namings(self):
        table = first_table(2, 3)
        for value in NO_SEQUENCES + ([], (), [0] * 13):
            self.assertEqual(error_of(two_recipes, table, value), ("InvalidNaming", 12), value)
            self.assertEqual(error_of(is_two_recipes, table, value, None), ("InvalidNaming", 12), value)
        for value in ODD + (3,):
            self.assertEqual(error_of(two_recipes, table, [0, value]), ("InvalidNaming", 1), value)
            self.assertEqual(error_of(is_two_recipes, table, (0, value), ((0, 1), (1, 0))), ("InvalidNaming", 1))

    def test_is_two_recipes(self):
        rnd = generator(5)
        recipes = all_recipes(2, 2, 2)
        for _ in range(10):
            table = random_table(rnd, 2, 3)
            naming = (rnd.randrange(3), rnd.randrange(3))
            for one in rnd.sample(recipes, 20):
                for other in rnd.sample(recipes, 20):
                    shows = mixture_of(2, 2, one) == mixture_of(2, 2, other)
                    shows = shows and label_of(table, naming, one) != label_of(table, naming, other)
                    self.assertIs(is_two_recipes(table=table, naming=naming, value=(one, other)), shows)

    def test_is_two_recipes_any_value(self):
        table = first_table(2, 2)
        self.assertTrue(is_two_recipes(table, [0, 1], ((0, 1), (1, 0))))
        wrong = [
            [(0, 1), (1, 0)], ([0, 1], (1, 0)), ((0, 1), [1, 0]), ((0, 1),), ((0, 1), (1, 0), 0), ((0, 2), (2, 0)),
            ((False, True), (True, False)), ((0, 1), None), (None, (0, 1)), deep_value(300), (nested(13), nested(13)),
            (nested(12), 0), (0, 1),
        ]
        for value in wrong + list(ODD):
            self.assertIs(is_two_recipes(table, [0, 1], value), False, value)


if __name__ == "__main__":
    unittest.main()
