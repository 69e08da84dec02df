"""Point 30: knots."""

import unittest

from mixlabels.faults import fault
from mixlabels.knots import knots, pumped, untied
from mixlabels.plans import checked_plan, plan_depth, plan_label, unfolded
from mixlabels.recipes import depth, ingredient_row, is_recipe, part, placed
from mixlabels.tables import Table
from mixlabels.tasting import label_of
from tests.helpers import (
    NO_SEQUENCES, ODD, SIZES, deep_value, error_of, first_table, generator, grown_recipe, least_table, nested,
    random_recipe, random_table,
)
from tests.test_plans import few_labels
from tests.test_recipes import chain


def places(recipe, place=()):
    found = [place]
    if isinstance(recipe, tuple):
        for at, cup in enumerate(recipe):
            found += places(cup, place + (at,))
    return found


def plain_knots(table, naming, recipe):
    rows = places(recipe)
    labels = {place: label_of(table, naming, part(recipe, place)) for place in rows}
    return tuple(sorted(
        (outer, inner) for inner in rows for outer in rows
        if len(outer) < len(inner) and inner[:len(outer)] == outer and labels[outer] == labels[inner]
    ))


def plain_pumped(recipe, outer, inner, times):
    """The recipe with A_times at outer, of any depth and size."""
    found = part(recipe, inner)
    for _ in range(times):
        found = placed(part(recipe, outer), inner[len(outer):], found)
    return placed(recipe, outer, found)


def expanded(ingredients, plan):
    """The recipe that a plan tells, of any depth and size."""
    rows, cup = plan
    found = list(range(ingredients))
    for row in rows:
        found.append(tuple(found[number] for number in row))
    return found[cup]


def drawn(rnd, k):
    table = random_table(rnd, k, rnd.randrange(1, few_labels(k) + 1))
    m = rnd.randrange(1, 5)
    naming = [rnd.randrange(table.labels) for _ in range(m)]
    recipe = rnd.choice([random_recipe(rnd, k, m, 3), random_recipe(rnd, k, m, 4, 0.5), grown_recipe(rnd, k, m, 40)])
    return table, naming, recipe if len(ingredient_row(recipe)) <= 200 else random_recipe(rnd, k, m, 2)


class KnotTest(unittest.TestCase):
    def test_all_knots(self):
        rnd = generator(1)
        for k in SIZES:
            for _ in range(60):
                table, naming, recipe = drawn(rnd, k)
                told = knots(table=table, naming=naming, recipe=recipe)
                self.assertEqual(told, plain_knots(table, naming, recipe))
                if depth(recipe) >= table.labels:
                    self.assertGreater(len(told), 0)
        self.assertEqual(knots(least_table(2, 2), [0, 1], (0, 1)), (((), (0,)),))
        self.assertEqual(knots(least_table(2, 2), [0, 1], 1), ())
        same = (((), (0,)), ((), (0, 0)), ((), (0, 1)), ((), (1,)), ((0,), (0, 0)), ((0,), (0, 1)))
        self.assertEqual(knots(least_table(2, 2), [1], ((0, 0), 0)), same)

    def test_200_ingredients(self):
        rnd = generator(2)
        for k in SIZES:
            recipe = grown_recipe(rnd, k, 3, 200)
            self.assertGreater(len(ingredient_row(recipe)), 195)
            for table in (random_table(rnd, k, few_labels(k)), Table(k, 1, [0])):
                naming = [rnd.randrange(table.labels) for _ in range(3)]
                told = knots(table, naming, recipe)
                self.assertEqual(told, plain_knots(table, naming, recipe))
                for outer, inner in rnd.sample(told, 3) + [told[0], told[-1]]:
                    self.check(table, naming, recipe, (outer, inner), 30)
                short = untied(table, naming, recipe)
                self.assertLess(depth(short), table.labels)

    def test_pumped(self):
        rnd = generator(3)
        for k in SIZES:
            for _ in range(40):
                table, naming, recipe = drawn(rnd, k)
                told = knots(table, naming, recipe)
                for knot in rnd.sample(told, min(len(told), 3)):
                    for times in (0, 1, 2, 30):
                        self.check(table, naming, recipe, knot, times)

    def check(self, table, naming, recipe, knot, times):
        m = len(naming)
        plan = pumped(table=table, naming=naming, recipe=recipe, outer=knot[0], inner=knot[1], times=times)
        self.assertEqual(checked_plan(table.k, m, plan), plan)
        wanted = plain_pumped(recipe, knot[0], knot[1], times)
        self.assertTrue(expanded(m, plan) == wanted)
        self.assertEqual(plan_label(table, naming, plan), label_of(table, naming, recipe))
        if times == 1:
            self.assertEqual(wanted, recipe)
        if times == 0:
            self.assertEqual(unfolded(table.k, m, plan), wanted)

    def test_pumped_very_deep(self):
        for k in SIZES:
            recipe = chain(k, 12)
            told = knots(Table(k, 1, [0]), [0], recipe)
            self.assertIn(((), (0,) * 12), told)
            plan = pumped(Table(k, 1, [0]), [0], recipe, (), (0,) * 12, 30)
            self.assertEqual(plan_depth(k, 1, plan), 360)
            self.assertEqual(pumped(Table(k, 1, [0]), [0], recipe, (), (0,) * 12, 0), ((), 0))

    def test_untied(self):
        rnd = generator(4)
        unfaithful = 0
        for k in SIZES:
            for _ in range(50):
                table, naming, recipe = drawn(rnd, k)
                unfaithful += fault(table) is not None
                told = untied(table=table, naming=naming, recipe=recipe)
                now, found = recipe, plain_knots(table, naming, recipe)
                while found:
                    now = plain_pumped(now, found[0][0], found[0][1], 0)
                    found = plain_knots(table, naming, now)
                self.assertEqual(told, now)
                self.assertTrue(is_recipe(k, len(naming), told))
                self.assertLess(depth(told), table.labels)
                self.assertEqual(label_of(table, naming, told), label_of(table, naming, recipe))
        self.assertGreater(unfaithful, 100)
        self.assertEqual(untied(least_table(2, 2), [1, 0], ((0, 0), (0, 1))), 1)


class ErrorTest(unittest.TestCase):
    def test_no_knots(self):
        table, recipe = least_table(2, 3), ((0, 1), (1, 1))
        self.assertIsNone(error_of(pumped, table, [0, 1], recipe, (0,), (0, 0), 3))
        wrong = [
            ((0, 0), (0,)), ((0,), (0,)), ((0,), (0, 1)), ((0,), (1, 0)), ((), (2,)), ((), (0, 0, 0)), ([], (0,)), ((), [0]),
            ((False,), (0, 0)), ((0,), (0, False)), ((0.0,), (0, 0)), ((0,), (0, 0.0)), ((0,), ("0",)), ("", (0,)), (0, 0),
            ((-1,), (-1, 0)), ((0,), (0, -2)), (deep_value(100), (0, 0)), ((0,), deep_value(100)), ((), ()), ((0,), None),
        ]
        for outer, inner in wrong:
            self.assertEqual(error_of(pumped, table, [0, 1], recipe, outer, inner, 3), ("Refused", 0), (outer, inner))
        for value in ODD:
            if value != ():
                self.assertEqual(error_of(pumped, table, [0, 1], recipe, value, (0, 0), 3), ("Refused", 0), value)
            self.assertEqual(error_of(pumped, table, [0, 1], recipe, (0,), value, 3), ("Refused", 0), value)
        told = error_of(pumped, first_table(2, 2), [0, 1], ((0, 1), (1, 1)), (), (1,), 0)
        self.assertEqual(told, ("Refused", 0))

    def test_recipes_and_namings(self):
        table = least_table(3, 3)
        works = ((knots, ()), (untied, ()), (pumped, (None, None, 1)), (pumped, ((), (0,), 1)))
        for work, more in works:
            for value in NO_SEQUENCES + ([], [0] * 13):
                for recipe in (0, None):
                    self.assertEqual(error_of(work, table, value, recipe, *more), ("InvalidNaming", 12), value)
            for value in ODD + (3,):
                self.assertEqual(error_of(work, table, [0, value], None, *more), ("InvalidNaming", 1), value)
            for value in ODD + (2, (0, 0), [0, 0, 0], deep_value(60)):
                self.assertEqual(error_of(work, table, [0, 1], value, *more), ("InvalidRecipe", 0), value)
                told = error_of(work, table, [0, 1], ((0, 1, 1), 0, value), *more)
                self.assertEqual(told, ("InvalidRecipe", 4), value)
        for work, more in works:
            self.assertEqual(error_of(work, least_table(2, 2), [0], nested(13), *more), ("InvalidRecipe", 0))
            self.assertEqual(error_of(work, least_table(2, 2), [0], nested(12), *more), ("InvalidRecipe", 2000))

    def test_later_changes(self):
        naming = [0, 1]
        plan = pumped(least_table(2, 2), naming, ((0, 1), 1), (0,), (0, 0), 2)
        naming[0] = 1
        self.assertEqual(expanded(2, plan), (((0, 1), 1), 1))


if __name__ == "__main__":
    unittest.main()
