"""Points 12 and 13: tables, and the labels of recipes."""

import itertools
import unittest

from mixlabels.tables import Table
from mixlabels.tasting import label_of, stages
from tests.helpers import (
    NO_SEQUENCES, ODD, SIZES, deep_value, error_of, generator, least_table, most_labels, nested, random_recipe,
    random_table,
)


class TableTest(unittest.TestCase):
    def test_attributes_and_blends(self):
        rnd = generator(1)
        for k in SIZES:
            for labels in range(1, most_labels(k) + 1):
                results = [rnd.randrange(labels) for _ in range(labels ** k)]
                table = Table(k=k, labels=labels, results=results)
                self.assertEqual((table.k, table.labels, table.results), (k, labels, tuple(results)))
                self.assertIsInstance(table.results, tuple)
                for at, cups in enumerate(itertools.product(range(labels), repeat=k)):
                    self.assertEqual(table.blend(cups), results[at])
                    self.assertEqual(table.blend(cups=list(cups)), results[at])

    def test_later_changes(self):
        results = [0, 0, 1, 1]
        table = Table(2, 2, results)
        results[0] = 1
        results.append(7)
        self.assertEqual(table.results, (0, 0, 1, 1))
        self.assertEqual(table.blend([0, 0]), 0)

    def test_equal(self):
        for k in SIZES:
            self.assertTrue(least_table(k, 3) == least_table(k, 3))
            self.assertFalse(least_table(k, 3) != least_table(k, 3))
            self.assertFalse(least_table(k, 3) == least_table(k, 2))
        self.assertFalse(Table(2, 1, [0]) == Table(3, 1, [0]))
        self.assertFalse(Table(2, 2, [0, 0, 0, 0]) == Table(2, 2, [0, 0, 0, 1]))
        for value in ODD + ((2, 1, (0,)), (0,)):
            self.assertFalse(Table(2, 1, [0]) == value)
            self.assertTrue(Table(2, 1, [0]) != value)

    def test_wrong_bowl(self):
        for value in ODD + (0, 1, 6, 2.0, "2"):
            self.assertEqual(error_of(Table, value, 2, [0] * 4), ("InvalidBowl", 0), value)
            self.assertEqual(error_of(Table, value, None, None), ("InvalidBowl", 0), value)

    def test_wrong_labels(self):
        for k in SIZES:
            for value in ODD + (0, 13, most_labels(k) + 1, 10 ** 6):
                if value is not True:
                    self.assertEqual(error_of(Table, k, value, [0]), ("InvalidTable", 0), value)
                    self.assertEqual(error_of(Table, k, value, None), ("InvalidTable", 0), value)
            self.assertEqual(error_of(Table, k, True, [0]), ("InvalidTable", 0))

    def test_wrong_results(self):
        for k in SIZES:
            many = 2 ** k
            for value in ODD + (2, 2.0, "1"):
                row = [1] * many
                row[many // 2] = value
                self.assertEqual(error_of(Table, k, 2, row), ("InvalidTable", many // 2), value)
                self.assertEqual(error_of(Table, k, 2, tuple(row)), ("InvalidTable", many // 2), value)
                self.assertEqual(error_of(Table, k, 2, row + [None]), ("InvalidTable", many // 2), value)
                self.assertEqual(error_of(Table, k, 2, [0] * many + [0, value]), ("InvalidTable", many + 1), value)
                self.assertEqual(error_of(Table, k, 2, [0, value]), ("InvalidTable", 1), value)
            for value in NO_SEQUENCES + ([], (), [0] * (many - 1), [0] * (many + 1), [0] * 1000):
                self.assertEqual(error_of(Table, k, 2, value), ("InvalidTable", many), value)

    def test_blend_refuses(self):
        for k in SIZES:
            table = least_table(k, 3)
            for value in NO_SEQUENCES + ([], (), [0] * (k - 1), [2] * (k + 1), (1,) * 1000):
                self.assertEqual(error_of(table.blend, value), ("Refused", k), value)
            for value in ODD + (3, 0.0, deep_value(300)):
                for at in range(k + 3):
                    cups = [0] * at + [value, None]
                    self.assertEqual(error_of(table.blend, cups), ("Refused", at), value)
                    self.assertEqual(error_of(table.blend, tuple(cups)), ("Refused", at), value)


def tasted(table, naming, recipe, told):
    if not isinstance(recipe, tuple):
        return naming[recipe]
    label = table.blend([tasted(table, naming, cup, told) for cup in recipe])
    told.append(label)
    return label


class TastingTest(unittest.TestCase):
    def test_labels(self):
        rnd = generator(2)
        for k in SIZES:
            for labels in (1, 2, most_labels(k)):
                table = random_table(rnd, k, labels)
                for _ in range(40):
                    naming = [rnd.randrange(labels) for _ in range(rnd.randrange(1, 13))]
                    recipe = random_recipe(rnd, k, len(naming), 4)
                    told = []
                    label = tasted(table, naming, recipe, told)
                    self.assertEqual(label_of(table=table, naming=naming, recipe=recipe), label)
                    self.assertEqual(stages(table=table, naming=tuple(naming), recipe=recipe), tuple(told))

    def test_order_of_stages(self):
        table = Table(2, 3, [1, 2, 0, 0, 1, 2, 2, 2, 2])
        self.assertEqual(stages(table, [0, 1], ((0, 1), (1, 0))), (2, 0, table.blend([2, 0])))
        self.assertEqual(stages(table, [0, 1], 1), ())
        self.assertEqual(label_of(table, [0, 1], 1), 1)

    def test_naming(self):
        table = least_table(3, 3)
        for work in (label_of, stages):
            for value in ODD + (3, 1.0):
                for at in range(13):
                    naming = [0] * at + [value, None]
                    self.assertEqual(error_of(work, table, naming, None), ("InvalidNaming", at), value)
            for value in NO_SEQUENCES + ([], (), [0] * 13, [2] * 40):
                self.assertEqual(error_of(work, table, value, None), ("InvalidNaming", 12), value)
            self.assertEqual(error_of(work, table, [0] * 12 + [9], 0), ("InvalidNaming", 12))
            self.assertEqual(error_of(work, table, [0] * 14 + [9], 0), ("InvalidNaming", 14))

    def test_recipes(self):
        table = least_table(2, 3)
        for work in (label_of, stages):
            self.assertEqual(error_of(work, table, [0, 1], (0, 2)), ("InvalidRecipe", 1))
            self.assertEqual(error_of(work, table, [0], nested(13)), ("InvalidRecipe", 0))
            self.assertEqual(error_of(work, table, [0], nested(12)), ("InvalidRecipe", 2000))
            self.assertEqual(error_of(work, table, [0], (0, 0, 0)), ("InvalidRecipe", 0))
            for value in ODD:
                self.assertEqual(error_of(work, table, [0], (0, value)), ("InvalidRecipe", 1), value)
        self.assertEqual(label_of(table, [2], nested(10)), 2)
        self.assertEqual(len(stages(table, [2], nested(10))), 1023)


if __name__ == "__main__":
    unittest.main()
