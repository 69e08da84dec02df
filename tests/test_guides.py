"""Points 69 and 70: guides, depths and cheapest recipes."""

import itertools
import unittest

from mixlabels.closed import closure
from mixlabels.guides import cheapest, depth_guide, depths, follow, is_floor, is_guide
from mixlabels.recipes import depth, ingredient_row
from mixlabels.tables import Table
from mixlabels.tasting import label_of
from tests.helpers import (
    ODD, SIZES, all_recipes, deep_value, error_of, first_table, generator, least_table, most_labels, random_table,
)
from tests.test_prices import drawn_table


def drawn_naming(rnd, table, most=4):
    return [rnd.randrange(table.labels) for _ in range(rnd.randrange(1, most + 1))]


def plainly_guide(table, naming, guide):
    """Whether a dict of labels is a guide: each of its labels can be followed to a recipe that has it."""
    if set(guide) != set(closure(table, naming)):
        return False

    def ends(label, path):
        way = guide[label]
        if label in path:
            return False
        if isinstance(way, int):
            return naming[way] == label
        return table.blend(way) == label and all(cup in guide and ends(cup, path | {label}) for cup in way)

    return all(ends(label, frozenset()) for label in guide)


def followed(guide, label):
    way = guide[label]
    return way if isinstance(way, int) else tuple(followed(guide, cup) for cup in way)


def size_of(guide, label):
    way = guide[label]
    return 1 if isinstance(way, int) else sum(size_of(guide, cup) for cup in way)


def plain_depths(table, naming):
    row = [0 if label in naming else None for label in range(table.labels)]
    for deep in range(1, table.labels):
        known = [label for label in range(table.labels) if row[label] is not None]
        for cups in itertools.product(known, repeat=table.k):
            if row[table.blend(cups)] is None:
                row[table.blend(cups)] = deep
    return tuple(row)


def cost_of(recipe, costs, fee):
    if not isinstance(recipe, tuple):
        return costs[recipe]
    return fee + sum(cost_of(cup, costs, fee) for cup in recipe)


def cost_by(guide, label, costs, fee):
    way = guide[label]
    return costs[way] if isinstance(way, int) else fee + sum(cost_by(guide, cup, costs, fee) for cup in way)


def plainly_floor(table, naming, costs, fee, row):
    for label, cost in zip(naming, costs):
        if row[label] is None or row[label] > cost:
            return False
    for cups in itertools.product(range(table.labels), repeat=table.k):
        if all(row[cup] is not None for cup in cups):
            number = row[table.blend(cups)]
            if number is None or number > sum(row[cup] for cup in cups) + fee:
                return False
    return True


class GuideTest(unittest.TestCase):
    def test_depths(self):
        rnd = generator(1)
        for k in SIZES:
            for _ in range(60):
                table = drawn_table(rnd, k)
                naming = drawn_naming(rnd, table)
                row = depths(table=table, naming=naming)
                self.assertEqual(row, plain_depths(table, naming))
                guide = depth_guide(table=table, naming=tuple(naming))
                self.assertEqual(list(guide), sorted(guide))
                self.assertTrue(plainly_guide(table, naming, guide))
                self.assertIs(is_guide(table=table, naming=naming, value=guide), True)
                for label in guide:
                    if size_of(guide, label) <= 2000:
                        recipe = follow(guide=guide, label=label)
                        self.assertEqual((label_of(table, naming, recipe), depth(recipe)), (label, row[label]))

    def test_depths_are_least(self):
        rnd = generator(2)
        for k, m, deep in ((2, 2, 3), (3, 2, 2), (4, 1, 2), (5, 2, 1)):
            recipes = all_recipes(k, m, deep)
            for _ in range(10):
                table = random_table(rnd, k, rnd.randrange(1, 4))
                naming = [rnd.randrange(table.labels) for _ in range(m)]
                row = depths(table, naming)
                found = {}
                for recipe in recipes:
                    label = label_of(table, naming, recipe)
                    found[label] = min(depth(recipe), found.get(label, 99))
                for label in range(table.labels):
                    if label in found or row[label] is None or row[label] <= deep:
                        self.assertEqual(found.get(label), row[label])

    def test_a_long_way(self):
        for k in SIZES:
            labels = most_labels(k)
            results = [min(cups[0] + 1, labels - 1) if len(set(cups)) == 1 else 0
                       for cups in itertools.product(range(labels), repeat=k)]
            table = Table(k, labels, results)
            self.assertEqual(depths(table, [0]), tuple(range(labels)))
            guide = depth_guide(table, [0])
            self.assertEqual(guide[labels - 1], (labels - 2,) * k)
            for label in range(labels):
                if k ** label > 2000:
                    self.assertEqual(error_of(follow, guide, label), ("Refused", k ** label))
                else:
                    self.assertEqual(len(ingredient_row(follow(guide, label))), k ** label)
            self.assertEqual(cheapest(table, [0], [3], 2)[0][2], 3 * k * k + 2 * k + 2)

    def test_two_thousand_ingredients(self):
        guide = {0: 0, 1: (0,) * 5, 2: (1,) * 5, 3: (2,) * 5, 4: (3, 3, 3, 2, 2), 5: (4, 4, 4, 4, 2), 6: (5, 2, 2, 2, 2)}
        self.assertEqual([size_of(guide, label) for label in guide], [1, 5, 25, 125, 425, 1725, 1825])
        guide[7] = (6, 3, 2, 2, 0)
        self.assertEqual(error_of(follow, guide, 7), ("Refused", 2001))
        guide[8] = (6, 3, 2, 1, 1)
        self.assertEqual(len(ingredient_row(follow(guide, 8))), 1985)
        guide[9] = (8, 1, 1, 1, 0)
        self.assertEqual(error_of(follow, guide, 9), ("Refused", 2001))
        two = {0: 0, 1: (0, 0), 2: (1, 1), 3: (2, 2), 4: (3, 3), 5: (4, 4), 6: (5, 5), 7: (6, 6), 8: (7, 7), 9: (8, 8),
               10: (9, 8), 11: (10, 10)}
        self.assertEqual(size_of(two, 10), 768)
        two[10] = (9, 9)
        self.assertEqual(len(ingredient_row(follow(two, 10))), 1024)
        self.assertEqual(error_of(follow, two, 11), ("Refused", 2048))
        # 2000 is 1000 + 1000, 1000 is 500 + 500, 500 is 250 + 250, 250 is 125 + 125.
        whole = {0: 0, 1: (0, 0), 2: (1, 1), 3: (2, 0), 4: (3, 3), 5: (4, 4), 6: (5, 4), 7: (6, 6), 8: (7, 3), 9: (8, 8)}
        self.assertEqual(size_of(whole, 8), 65)
        whole[8] = (7, 7)
        self.assertEqual(size_of(whole, 8), 120)
        whole[9] = (8, 3)
        for label in (10, 11, 12, 13):
            whole[label] = (label - 1,) * 2
        self.assertEqual(len(ingredient_row(follow(whole, 13))), 2000)

    def test_cheapest(self):
        rnd = generator(3)
        for k in SIZES:
            for _ in range(60):
                table = drawn_table(rnd, k)
                naming = drawn_naming(rnd, table)
                costs = [rnd.choice([0, 0, 1, 2, rnd.randrange(1001), 1000]) for _ in naming]
                fee = rnd.choice([0, 0, 1, rnd.randrange(1001), 1000])
                row, guide = cheapest(table=table, naming=naming, costs=costs, fee=fee)
                self.assertIsInstance(row, tuple)
                self.assertEqual(list(guide), sorted(guide))
                self.assertTrue(plainly_guide(table, naming, guide))
                self.assertEqual([label for label in range(table.labels) if row[label] is not None], list(guide))
                self.assertEqual([cost_by(guide, label, costs, fee) for label in guide], [row[label] for label in guide])
                self.assertTrue(plainly_floor(table, naming, costs, fee, row))
                self.assertIs(is_floor(table=table, naming=naming, costs=costs, fee=fee, value=row), True)
                if fee == 0:
                    self.assertEqual(cheapest(table, tuple(naming), tuple(costs)), (row, guide))

    def test_cheapest_of_all_recipes(self):
        rnd = generator(4)
        for k, m, deep in ((2, 2, 3), (3, 2, 2), (4, 1, 2), (5, 2, 1)):
            recipes = all_recipes(k, m, deep)
            for _ in range(10):
                table = random_table(rnd, k, rnd.randrange(1, 4))
                naming = [rnd.randrange(table.labels) for _ in range(m)]
                costs, fee = [rnd.randrange(5) for _ in range(m)], rnd.randrange(3)
                row, guide = cheapest(table, naming, costs, fee)
                found = {}
                for recipe in recipes:
                    label = label_of(table, naming, recipe)
                    found[label] = min(cost_of(recipe, costs, fee), found.get(label, 10 ** 9))
                for label, cost in found.items():
                    self.assertLessEqual(row[label], cost)
                    recipe = followed(guide, label)
                    if depth(recipe) <= deep:
                        self.assertEqual(row[label], cost)

    def test_free_blends(self):
        # Nothing costs anything, so that going round would cost nothing either.
        rnd = generator(5)
        for k in SIZES:
            for _ in range(20):
                table = random_table(rnd, k, most_labels(k))
                row, guide = cheapest(table, [0, 1], [0, 0])
                self.assertTrue(plainly_guide(table, [0, 1], guide))
                self.assertEqual({row[label] for label in guide}, {0})

    def test_the_cheaper_of_like_ingredients(self):
        for k in SIZES:
            table = least_table(k, 3)
            self.assertEqual(cheapest(table, [1, 1, 1], [5, 3, 3], 4), ((None, 3, None), {1: 1}))
            row, guide = cheapest(table, (2, 0, 2), (7, 9, 1), 1000)
            self.assertEqual((row, guide), ((9, None, 1), {0: 1, 2: 2}))
            row, guide = cheapest(Table(k, 2, [1] + [0] * (2 ** k - 1)), [0, 1], [1, 1000], 0)
            self.assertEqual((row, guide), ((1, k), {0: 0, 1: (0,) * k}))


class IsGuideTest(unittest.TestCase):
    def test_changed(self):
        rnd = generator(6)
        for k in SIZES:
            shown = {True: 0, False: 0}
            for _ in range(200):
                table = random_table(rnd, k, rnd.randrange(1, min(5, most_labels(k)) + 1))
                naming = drawn_naming(rnd, table)
                guide = dict(depth_guide(table, naming))
                label = rnd.choice(list(guide))
                kind = rnd.randrange(4)
                if kind == 0:
                    guide[label] = rnd.randrange(len(naming))
                elif kind == 1:
                    del guide[label]
                elif kind == 2:
                    guide[label] = tuple(rnd.choice(list(guide)) for _ in range(k))
                else:
                    guide = {label: guide[label] for label in rnd.sample(list(guide), len(guide))}
                shows = plainly_guide(table, naming, guide)
                shown[shows] += 1
                self.assertIs(is_guide(table, naming, guide), shows, (table.results, naming, guide))
            self.assertGreater(min(shown.values()), 20)

    def test_any_value(self):
        table, naming = Table(2, 4, [1, 2, 0, 3] + [0] * 12), [0, 0]
        good = {0: 1, 1: (0, 0), 2: (0, 1)}
        for guide in (good, {2: (0, 1), 0: 0, 1: (0, 0)}):
            self.assertIs(is_guide(table, naming, guide), True)
        for value in ODD + (
            list(good.items()), {0: 1, 1: (0, 0)}, {**good, 3: (0, 3)}, {**good, 0: (0, 2)}, {**good, 0: 2}, {**good, 0: -1},
            {**good, 0: True}, {**good, 0: None}, {**good, 1: [0, 0]}, {**good, 1: (0,)}, {**good, 1: (0, 0, 0)},
            {**good, 1: (0, False)}, {**good, 1: (0, 4)}, {**good, 1: (0, -1)}, {**good, 1: (0, None)}, {**good, 1: (0, 1)},
            {**good, 1: 0}, {False: 1, True: (0, 0), 2: (0, 1)}, {0: 1, True: (0, 0), 2: (0, 1)}, {**good, "a": 1},
            {"0": 1, "1": (0, 0), "2": (0, 1)}, {**good, 1: deep_value(50)}, {**good, None: 1}, {**good, 2: (1, 2)},
            {**good, 1: (2, 0)}, {0.0: 1, 1: (0, 0), 2: (0, 1)}, {**good, (0, 1): 1},
        ):
            self.assertIs(is_guide(table, naming, value), False, value)

    def test_round_about(self):
        table = Table(2, 3, [1, 1, 1, 2, 2, 2, 1, 1, 1])
        self.assertIs(is_guide(table, [0], {0: 0, 1: (0, 0), 2: (1, 1)}), True)
        self.assertIs(is_guide(table, [0], {0: 0, 1: (2, 2), 2: (1, 1)}), False)
        self.assertIs(is_guide(table, [0], {0: 0, 1: (0, 1), 2: (1, 1)}), False)
        self.assertIs(is_guide(table, [0], {0: 0, 1: (0, 2), 2: (1, 0)}), False)

    def test_first_cups(self):
        for k in SIZES:
            table = first_table(k, 3)
            self.assertEqual((depths(table, [2, 0]), depth_guide(table, [2, 0, 2])), ((0, None, 0), {0: 1, 2: 0}))


class IsFloorTest(unittest.TestCase):
    def test_changed(self):
        rnd = generator(7)
        for k in SIZES:
            shown = {True: 0, False: 0}
            for _ in range(200):
                table = random_table(rnd, k, rnd.randrange(1, min(5, most_labels(k)) + 1))
                naming = drawn_naming(rnd, table)
                costs, fee = [rnd.randrange(6) for _ in naming], rnd.randrange(4)
                row = list(cheapest(table, naming, costs, fee)[0])
                for _ in range(rnd.randrange(1, 3)):
                    row[rnd.randrange(table.labels)] = rnd.choice([None, 0, 1, rnd.randrange(12)])
                if rnd.random() < 0.3:
                    row = [None if number is None else max(0, number - 1) for number in row]
                shows = plainly_floor(table, naming, costs, fee, row)
                shown[shows] += 1
                self.assertIs(is_floor(table, naming, costs, fee, tuple(row)), shows)
            self.assertGreater(min(shown.values()), 20)

    def test_any_value(self):
        table, naming, costs = least_table(2, 3), [2, 1], [5, 1000]
        for row in ((None, 1000, 5), (None, 0, 0), (0, 0, 0), (10 ** 30, 1000, 5), (7, 3, 1), (0, 5, 5)):
            self.assertIs(is_floor(table, naming, costs, 0, row), True, row)
        for value in ODD + (
            [None, 1000, 5], (None, 1000), (None, 1000, 5, 0), (None, 1001, 5), (None, 1000, 6), (None, None, 5), (None, 1000, None),
            (-1, 1000, 5), (True, 1000, 5), (None, 1000, 5.0), (None, False, 0), ("", 1000, 5), ((0, 1), 1000, 5), deep_value(40),
            (None, [1000], 5), (False, 0, 0),
        ):
            self.assertIs(is_floor(table, naming, costs, 0, value), False, value)
        # A blend of labels that all have numbers has one, too.
        self.assertIs(is_floor(Table(2, 3, [0, 2, 1] * 3), [0], [0], 0, (0, None, None)), True)
        self.assertIs(is_floor(Table(2, 3, [0, 2, 1] * 3), [0, 1], [0, 0], 0, (0, 0, None)), False)
        self.assertIs(is_floor(Table(2, 3, [0, 2, 1] * 3), [0, 1], [0, 0], 3, (0, 0, 3)), True)
        self.assertIs(is_floor(Table(2, 3, [0, 2, 1] * 3), [0, 1], [0, 0], 3, (0, 0, 4)), False)

    def test_later_changes(self):
        naming, costs = [0, 1], [4, 5]
        told = cheapest(least_table(2, 2), naming, costs)
        naming[0] = costs[0] = 1
        self.assertEqual(told, ((4, 5), {0: 0, 1: 1}))


if __name__ == "__main__":
    unittest.main()
