"""Points 25 to 28: plans, lines, paths and stories."""

import math
import unittest

from mixlabels.chains import Chain
from mixlabels.faults import fault
from mixlabels.fillings import count_of, mixture_at
from mixlabels.lines import label_modulus, line, line_label, line_plan, shift, shift_modulus
from mixlabels.mixtures import contained, mixture_of
from mixlabels.plans import (
    checked_plan, folded, plan_depth, plan_label, plan_labels, plan_mixture, unfolded,
)
from mixlabels.recipes import depth, ingredient_row, is_recipe
from mixlabels.stories import is_story, path, story
from mixlabels.tables import Table
from mixlabels.tasting import label_of
from tests.helpers import (
    NO_SEQUENCES, ODD, SIZES, all_mixtures, deep_value, error_of, first_table, generator, grown_recipe, least_table,
    nested, random_recipe, random_table,
)
from tests.test_recipes import chain


def doubling(rows):
    """A plan in which each row blends the one before it."""
    return tuple((at, at) for at in range(rows)), rows


def few_labels(k):
    return {2: 6, 3: 6, 4: 5, 5: 3}[k]


def blends_in_order(recipe, found=None):
    """The different blends, as they are first completed."""
    found = [] if found is None else found
    if isinstance(recipe, tuple):
        for cup in recipe:
            blends_in_order(cup, found)
        if recipe not in found:
            found.append(recipe)
    return found


class PlanTest(unittest.TestCase):
    def test_folded(self):
        rnd = generator(1)
        for k in SIZES:
            for _ in range(80):
                m = rnd.randrange(1, 5)
                recipe = random_recipe(rnd, k, m, 4)
                plan = folded(k=k, ingredients=m, recipe=recipe)
                self.assertEqual(checked_plan(k=k, ingredients=m, value=plan), plan)
                self.assertEqual(unfolded(k=k, ingredients=m, plan=plan), recipe)
                blends = blends_in_order(recipe)
                self.assertEqual(len(plan[0]), len(blends))
                for at, blend in enumerate(blends):
                    self.assertEqual(unfolded(k, m, (plan[0], m + at)), blend)
                self.assertEqual(plan_depth(k=k, ingredients=m, plan=plan), depth(recipe))
                self.assertEqual(plan_mixture(k=k, ingredients=m, plan=plan), mixture_of(k, m, recipe))
                self.check_labels(rnd, k, m, plan)

    def check_labels(self, rnd, k, m, plan):
        table = random_table(rnd, k, 3)
        naming = [rnd.randrange(3) for _ in range(m)]
        labels = plan_labels(table=table, naming=naming, plan=plan)
        self.assertEqual(len(labels), m + len(plan[0]))
        self.assertIsInstance(labels, tuple)
        for number, label in enumerate(labels):
            self.assertEqual(label, label_of(table, naming, unfolded(k, m, (plan[0], number))))
        self.assertEqual(plan_label(table=table, naming=naming, plan=plan), labels[plan[1]])

    def test_examples(self):
        self.assertEqual(folded(2, 2, ((0, 1), (0, 1))), (((0, 1), (2, 2)), 3))
        self.assertEqual(folded(2, 2, 1), ((), 1))
        self.assertEqual(plan_mixture(2, 2, (((0, 1), (2, 0)), 3)), (2, (3, 1)))
        self.assertEqual(plan_depth(2, 2, (((0, 1), (2, 0)), 0)), 0)
        self.assertEqual(unfolded(2, 2, (((0, 1), (2, 0)), 2)), (0, 1))

    def test_lists(self):
        value = [[[0, 1], (2, 2)], 3]
        plan = checked_plan(2, 2, value)
        value[0][0][0] = 1
        self.assertEqual(plan, (((0, 1), (2, 2)), 3))
        self.assertEqual(plan_depth(2, 2, [[[0, 1], [2, 2]], 3]), 2)
        self.assertEqual(plan_mixture(2, 2, [[[0, 1], [2, 2]], 3]), (1, (1, 1)))
        self.assertEqual(unfolded(2, 2, [[[0, 1]], 2]), (0, 1))
        self.assertEqual(plan_label(least_table(2, 2), [0, 1], [[[0, 1]], 2]), 0)

    def test_wrong_plans(self):
        rows = [[0, 1], [2, 0]]
        table = least_table(2, 3)
        wrong = {("InvalidRecipe", 0): [value for value in ODD]}
        wrong["InvalidRecipe", 0] += [[rows], [rows, 0, 0], [0, rows], ["01", 0], [{}, 0], [[None], 0], deep_value(50)]
        wrong["InvalidRecipe", 0] += [[[[0, 2]] + rows, 99], [[[0]], 9], [[[0, 1, 1]], 0], [[[0, 1.0]], 0], [[], 2]]
        wrong["InvalidRecipe", 1] = [[[[0, 1], row], 9] for row in ODD] + [[[[0, 1], [3, 0]], 0], [[[0, 1], [-1, 0]], 0]]
        wrong["InvalidRecipe", 1] += [[[[0, 1], [0, value]], 0] for value in ODD]
        wrong["InvalidRecipe", 2] = [[rows, cup] for cup in ODD + (4, 3.0)] + [[rows + [None, None], 99]]
        for told, values in wrong.items():
            for value in values:
                if value in ([[[0, 1], [0, 1]], 9], [[[0, 1], [0, 1]], 0]):
                    continue
                for work in (checked_plan, plan_depth, plan_mixture, unfolded):
                    self.assertEqual(error_of(work, 2, 2, value), told, value)
                for work in (plan_labels, plan_label):
                    self.assertEqual(error_of(work, table, [0, 1], value), told, value)

    def test_1000_rows_and_1001(self):
        for k in SIZES:
            rows = [(at,) * (k - 1) + (0,) for at in range(1000)]
            plan = (tuple(rows), 1000)
            self.assertEqual(checked_plan(k, 1, [rows, 1000]), plan)
            self.assertEqual(plan_depth(k, 1, plan), 1000)
            self.assertEqual(plan_mixture(k, 1, plan), (0, (1,)))
            self.assertEqual(len(plan_labels(least_table(k, 2), [1], plan)), 1001)
            for more in ((0,) * k, None):
                self.assertEqual(error_of(checked_plan, k, 1, (rows + [more], 0)), ("InvalidRecipe", 1000))
                self.assertEqual(error_of(checked_plan, k, 1, (rows + [more], None)), ("InvalidRecipe", 1000))
            self.assertEqual(error_of(checked_plan, k, 1, (rows, 1001)), ("InvalidRecipe", 1000))
            self.assertEqual(error_of(unfolded, k, 1, plan), ("Refused", 1000))
            self.assertEqual(unfolded(k, 1, (rows, 0)), 0)

    def test_deep_mixture(self):
        for k in SIZES:
            rows = [(1,) + (0,) * (k - 1)] + [(2 + at,) + (0,) * (k - 1) for at in range(999)]
            self.assertEqual(plan_mixture(k, 2, (rows, 1001)), (1000, (k ** 1000 - 1, 1)))

    def test_unfolded_refuses(self):
        rows, cup = doubling(13)
        self.assertEqual(error_of(unfolded, 2, 1, (rows, 13)), ("Refused", 13))
        self.assertEqual(error_of(unfolded, 2, 1, (rows, 12)), ("Refused", 4096))
        self.assertEqual(error_of(unfolded, 2, 1, (rows, 11)), ("Refused", 2048))
        self.assertEqual(unfolded(2, 1, (rows, 10)), nested(10))
        self.assertEqual(error_of(unfolded, 2, 1, doubling(1000)), ("Refused", 1000))
        for k in SIZES:
            deep = chain(k, 12)
            self.assertEqual(unfolded(k, 1, folded(k, 1, deep)), deep)
            self.assertEqual(error_of(unfolded, k, 1, folded(k, 1, chain(k, 13))), ("Refused", 13))
        one = folded(2, 1, (nested(10), nested(9)))
        self.assertEqual(len(ingredient_row(unfolded(2, 1, one))), 1536)
        rows = list(doubling(11)[0]) + [(10, 0), (10, 9), (13, 9)]
        self.assertEqual(error_of(unfolded, 2, 1, (rows, 14)), ("Refused", 2048))

    def test_large_recipes(self):
        rnd = generator(2)
        for k in SIZES:
            recipe = grown_recipe(rnd, k, 4, 2000, 12)
            plan = folded(k, 4, recipe)
            if len(plan[0]) <= 1000:
                self.assertEqual(unfolded(k, 4, plan), recipe)
                self.assertEqual(plan_mixture(k, 4, plan), mixture_of(k, 4, recipe))

    def test_naming_goes_first(self):
        table = least_table(3, 3)
        for work in (plan_labels, plan_label):
            for value in NO_SEQUENCES + ([], [0] * 13):
                self.assertEqual(error_of(work, table, value, None), ("InvalidNaming", 12), value)
            for value in ODD + (3,):
                self.assertEqual(error_of(work, table, [0, value], None), ("InvalidNaming", 1), value)


def line_recipe(k, i, j, t):
    found = i
    for _ in range(t):
        found = (found,) + (j,) * (k - 1)
    return found


class LineTest(unittest.TestCase):
    def test_lines(self):
        rnd = generator(3)
        for k in SIZES:
            for labels in range(1, few_labels(k) + 1):
                for _ in range(10):
                    table = random_table(rnd, k, labels)
                    m = rnd.randrange(2, 5)
                    naming = [rnd.randrange(labels) for _ in range(m)]
                    i, j = rnd.sample(range(m), 2)
                    self.check(table, naming, i, j)

    def check(self, table, naming, i, j):
        told, start = line(table=table, naming=naming, i=i, j=j)
        row = [naming[i]]
        for _ in range(40):
            row.append(table.blend([row[-1]] + [naming[j]] * (table.k - 1)))
        self.assertEqual(list(told), row[:len(told)])
        self.assertEqual(len(set(told)), len(told))
        self.assertEqual(row[len(told)], told[start])
        for t, label in enumerate(row):
            self.assertEqual(line_label(table=table, naming=naming, i=i, j=j, t=t), label)
            if t <= 12:
                self.assertEqual(label, label_of(table, naming, line_recipe(table.k, i, j, t)))
        period = len(told) - start
        for t in (10 ** 18, 10 ** 18 + 1, 10 ** 18 + 17):
            near_t = t - (t - 20) // period * period
            self.assertEqual(line_label(table, naming, i, j, t), row[near_t])

    def test_line_plans(self):
        for k in SIZES:
            for t in range(8):
                wanted = folded(k, 3, line_recipe(k, 2, 1, t))
                self.assertEqual(line_plan(k=k, ingredients=3, i=2, j=1, t=t), wanted)
            plan = line_plan(k, 2, 0, 1, 1000)
            self.assertEqual(len(plan[0]), 1000)
            self.assertEqual(plan_mixture(k, 2, plan), (1000, (1, k ** 1000 - 1)))
            self.assertEqual(plan_depth(k, 2, plan), 1000)

    def test_pairs(self):
        table = least_table(2, 3)
        for value in ODD + (2, 0.0):
            for other in (0, None, value):
                self.assertEqual(error_of(line, table, [0, 1], value, other), ("InvalidPair", 0), value)
                self.assertEqual(error_of(line_label, table, [0, 1], value, other, 3), ("InvalidPair", 0), value)
                self.assertEqual(error_of(line_plan, 2, 2, value, other, 3), ("InvalidPair", 0), value)
            self.assertEqual(error_of(line, table, [0, 1], 1, value), ("InvalidPair", 1), value)
            self.assertEqual(error_of(line_label, table, [0, 1], 1, value, 3), ("InvalidPair", 1), value)
            self.assertEqual(error_of(line_plan, 2, 2, 1, value, 3), ("InvalidPair", 1), value)
        self.assertEqual(error_of(line, table, [0, 1], 1, 1), ("InvalidPair", 1))
        self.assertEqual(error_of(line_label, table, [0], 0, 0, 3), ("InvalidPair", 1))
        self.assertEqual(error_of(line_plan, 2, 1, 0, 0, 0), ("InvalidPair", 1))

    def test_naming_goes_first(self):
        table = least_table(2, 3)
        for value in NO_SEQUENCES + ([], [0] * 13):
            for work, more in ((line, (9, 9)), (line_label, (9, 9, 0)), (shift, ()), (shift_modulus, ())):
                self.assertEqual(error_of(work, table, value, *more), ("InvalidNaming", 12), value)
        for value in ODD + (3,):
            for work, more in ((line, (9, 9)), (line_label, (9, 9, 0)), (shift, ()), (shift_modulus, ())):
                self.assertEqual(error_of(work, table, [0, value], *more), ("InvalidNaming", 1), value)

    def test_shift(self):
        rnd = generator(4)
        for k in SIZES:
            for _ in range(40):
                labels = rnd.randrange(1, few_labels(k) + 1)
                table = random_table(rnd, k, labels)
                m = rnd.randrange(1, 5)
                naming = [rnd.randrange(labels) for _ in range(m)]
                lines = [line(table, naming, i, j) for i in range(m) for j in range(m) if i != j]
                start = max([1] + [first for _, first in lines])
                period = math.lcm(*[len(told) - first for told, first in lines])
                self.assertEqual(shift(table=table, naming=naming), (start, period))
                self.assertEqual(shift_modulus(table=table, naming=tuple(naming)), k ** period - 1)
                self.assertEqual(label_modulus(k, labels) % (k ** period - 1), 0)
            self.assertEqual(shift(random_table(rnd, k, 2), [1]), (1, 1))
            for labels in range(1, 13):
                wanted = k ** math.lcm(*range(1, labels + 1)) - 1
                self.assertEqual(label_modulus(k=k, labels=labels), wanted)

    def test_turning_line(self):
        table = Table(2, 3, [0, 1, 2, 1, 0, 2, 2, 1, 0])
        self.assertEqual(line(table, [1, 2], 0, 1), ((1, 2, 0), 1))
        self.assertEqual(shift(table, [1, 2])[0], 1)


class StoryTest(unittest.TestCase):
    def ends(self, rnd, table, naming, n):
        """Two mixtures of one case modulo the shift, or None."""
        k, m = table.k, len(naming)
        modulus = shift_modulus(table, naming)
        some = sorted(rnd.sample(range(m), rnd.randrange(2, m + 1)))
        rests = [0] * m
        for i in some[:-1]:
            rests[i] = rnd.randrange(modulus)
        rests[some[-1]] = (1 - sum(rests)) % modulus
        case = (tuple(some), tuple(rests))
        many = count_of(k, modulus, case, n)
        if many < 2:
            return None
        return [mixture_at(k, modulus, case, n, rnd.randrange(many)) for _ in range(2)]

    def test_stories(self):
        rnd = generator(5)
        unfaithful = 0
        for k in SIZES:
            for labels in range(1, few_labels(k) + 1):
                for n in (2, 4, 10, 40):
                    table = random_table(rnd, k, labels)
                    naming = [rnd.randrange(labels) for _ in range(rnd.randrange(2, 5))]
                    ends = self.ends(rnd, table, naming, n)
                    if ends is not None:
                        unfaithful += fault(table) is not None
                        self.check(rnd, table, naming, *ends)
        self.assertGreater(unfaithful, 20)

    def check(self, rnd, table, naming, one, other):
        k, m = table.k, len(naming)
        chain = path(table=table, naming=naming, one=one, other=other)
        start, period = shift(table, naming)
        self.assertIsInstance(chain, Chain)
        told = (chain.k, chain.modulus, chain.depth, chain.start, chain.goal)
        self.assertEqual(told, (k, k ** period - 1, max(one[0], other[0]) + start + period, one, other))
        if chain.length > 0:
            for index in (0, chain.length - 1, rnd.randrange(chain.length)):
                value = story(table=table, naming=naming, one=one, other=other, index=index)
                mixtures = tuple(plan_mixture(k, m, plan) for plan in value)
                self.assertEqual(mixtures, (chain.mixture_after(index), chain.mixture_after(index + 1)))
                self.assertEqual(len({plan_label(table, naming, plan) for plan in value}), 1)
                self.assertLessEqual(max(plan_depth(k, m, plan) for plan in value), chain.depth)
                self.assertTrue(is_story(table=table, naming=naming, value=value))
        for value in ODD + (chain.length, chain.length + 1, 0.0):
            if value != 10 ** 30 or value >= chain.length:
                self.assertEqual(error_of(story, table, naming, one, other, value), ("Refused", 0), value)

    def test_every_move_of_a_short_path(self):
        for k in SIZES:
            table = first_table(k, 2)
            one, other = (2, (1, k ** 2 - 1)), (2, (1 + k * (k - 1), k - 1))
            chain = path(table, [0, 1], one, other)
            for index in range(min(chain.length, 60)):
                value = story(table, [0, 1], one, other, index)
                self.assertTrue(is_story(table, [0, 1], value))
                self.assertEqual(plan_mixture(k, 2, value[0]), chain.mixture_after(index))
                self.assertEqual(plan_mixture(k, 2, value[1]), chain.mixture_after(index + 1))

    def test_errors(self):
        table = first_table(2, 3)
        good = (1, (1, 1))
        for value in NO_SEQUENCES + ([], [0] * 13):
            self.assertEqual(error_of(path, table, value, good, good), ("InvalidNaming", 12), value)
            self.assertEqual(error_of(story, table, value, good, (0, (1, 0)), None), ("InvalidNaming", 12), value)
            self.assertEqual(error_of(is_story, table, value, None), ("InvalidNaming", 12), value)
        for value in ODD + (3,):
            self.assertEqual(error_of(path, table, [0, value], good, good), ("InvalidNaming", 1), value)
            self.assertEqual(error_of(is_story, table, [0, value], None), ("InvalidNaming", 1), value)
        for index in (0, None, -1):
            self.assertEqual(error_of(story, table, [0, 1], good, (0, (1, 0)), index), ("InvalidPair", 3))
            self.assertEqual(error_of(story, table, [0, 1], good, good, index), ("Refused", 0))
        self.assertEqual(error_of(path, table, [0, 1], good, (0, (1, 0))), ("InvalidPair", 3))
        self.assertEqual(path(table, [0, 1], good, good).length, 0)

    def test_is_story(self):
        table = Table(2, 2, [0, 0, 0, 0])
        one, other = (((0, 1),), 2), (((0, 1), (2, 0)), 3)
        self.assertTrue(is_story(table, [0, 1], (one, other)))
        self.assertFalse(is_story(least_table(2, 2), [0, 1], (one, (((1, 1),), 2))))
        self.assertFalse(is_story(table, [0, 1], (one, one)))
        self.assertFalse(is_story(table, [0, 1], (one, (((1, 0),), 2))))
        self.assertFalse(is_story(table, [0, 1], (one, ((), 0))))
        self.assertFalse(is_story(first_table(2, 2), [0, 1], ((((0, 1),), 2), (((0, 1), (1, 2)), 3))))
        wrong = [
            [one, other], (one, list(other)), (([(0, 1)], 2), other), ((([0, 1],), 2), other), (one,), (one, other, one),
            (one, None), (one, (((0, True),), 2)), (((), 0.0), ((), 1)), (one, (((0, 1),), 3)), deep_value(200),
        ]
        for value in wrong + list(ODD):
            self.assertIs(is_story(table, [0, 1], value), False, value)

    def test_is_story_tells_all(self):
        rnd = generator(6)
        for k in SIZES:
            for _ in range(200):
                table = random_table(rnd, k, 2)
                recipes = [random_recipe(rnd, k, 2, 2) for _ in range(2)]
                plans = tuple(folded(k, 2, recipe) for recipe in recipes)
                mixtures = [mixture_of(k, 2, recipe) for recipe in recipes]
                shows = mixtures[0] != mixtures[1] and contained(mixtures[0]) == contained(mixtures[1])
                shows = shows and len({label_of(table, [0, 1], recipe) for recipe in recipes}) == 1
                self.assertIs(is_story(table, [0, 1], plans), shows)
                self.assertTrue(all(is_recipe(k, 2, recipe) for recipe in recipes))

    def test_pure_ends(self):
        for mixture in all_mixtures(3, 2, 0):
            self.assertEqual(path(least_table(3, 2), [0, 1], mixture, mixture).length, 0)


if __name__ == "__main__":
    unittest.main()
