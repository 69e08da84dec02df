"""Point 48: what any table tells about an oracle."""

import itertools
import unittest

from mixlabels.cases import all_cases, case_of
from mixlabels.combining import mean_table, pair_table
from mixlabels.least import classes, least_size, least_table as table_of
from mixlabels.leastsizes import remainder_oracle
from mixlabels.mixtures import mixture_of
from mixlabels.oracles import Oracle
from mixlabels.plans import checked_plan, folded, plan_label, plan_mixture
from mixlabels.readings import is_mistake, reading
from mixlabels.standard import standard_naming, standard_table
from mixlabels.tables import Table
from mixlabels.tasting import label_of
from tests.faithful import called_anew, faithful_tables
from tests.helpers import (
    NO_SEQUENCES, ODD, SIZES, deep_value, error_of, first_table, generator, least_table, most_labels, random_recipe,
    random_table,
)
from tests.test_oracles import case_number
from tests.test_trails import drawn_oracle


def plain_rows(oracle, table, naming):
    """For each label all classes of recipes with it, by a walk from all that is known to all blends."""
    numbers = dict(zip(all_cases(oracle.ingredients, oracle.modulus), classes(oracle)))
    firsts = {number: case for case, number in reversed(list(numbers.items()))}
    table_of_classes = {}
    known = set()
    for i, label in enumerate(naming):
        mixture = (0, tuple(int(i == j) for j in range(oracle.ingredients)))
        known.add((label, numbers[case_of(oracle.k, mixture, oracle.modulus)]))
    while True:
        fresh = set(known)
        for cups in itertools.product(sorted(known), repeat=oracle.k):
            kinds = tuple(sorted(number for _, number in cups))
            if kinds not in table_of_classes:
                table_of_classes[kinds] = numbers[plain_blend(oracle, [firsts[number] for number in kinds])]
            fresh.add((table.blend([label for label, _ in cups]), table_of_classes[kinds]))
        if fresh == known:
            return [sorted(number for other, number in known if other == label) for label in range(table.labels)]
        if len(fresh) > 12:
            return None
        known = fresh


def plain_blend(oracle, cases):
    some = tuple(sorted({i for case in cases for i in case[0]}))
    scale = pow(oracle.k, -1, oracle.modulus)
    return some, tuple(sum(row) * scale % oracle.modulus for row in zip(*[case[1] for case in cases]))


class ReadingTest(unittest.TestCase):
    def check(self, oracle, table, naming):
        k, m = oracle.k, oracle.ingredients
        told = reading(oracle=oracle, table=table, naming=naming)
        if told[0] == "mistake":
            self.assertEqual(len(told), 3)
            self.assertIs(is_mistake(oracle=oracle, table=table, naming=naming, value=told[1:]), True)
            for plan in told[1:]:
                self.assertEqual(checked_plan(k, m, plan), plan)
            self.assertEqual(*[plan_label(table, naming, plan) for plan in told[1:]])
            self.assertNotEqual(*[oracle.mixture_answer(plan_mixture(k, m, plan)) for plan in told[1:]])
        else:
            self.assertEqual((told[0], len(told), len(told[1])), ("reading", 2, table.labels))
            self.assertGreaterEqual(table.labels, least_size(oracle))
        return told

    def test_least_tables(self):
        rnd = generator(1)
        for k in SIZES:
            for _ in range(30):
                oracle = drawn_oracle(rnd, k, 40)
                many = least_size(oracle)
                if many <= most_labels(k):
                    table, naming = table_of(oracle)
                    self.assertEqual(self.check(oracle, table, naming), ("reading", tuple(range(many))))
                    self.check_changed(rnd, oracle, table, naming)
                    names = rnd.sample(range(many), many)
                    anew = called_table(table, names)
                    told = self.check(oracle, anew, [names[label] for label in naming])
                    self.assertEqual(told[1], tuple(names.index(label) for label in range(many)))

    def check_changed(self, rnd, oracle, table, naming):
        """With so many labels there is no other table but for names, so one changed result makes a mistake."""
        at = rnd.randrange(len(table.results))
        results = list(table.results)
        results[at] = rnd.randrange(table.labels)
        told = self.check(oracle, Table(table.k, table.labels, results), naming)
        self.assertEqual(told[0] == "reading", results[at] == table.results[at])

    def test_against_a_walk(self):
        rnd = generator(2)
        kinds = set()
        for k in (2, 3):
            for _ in range(60):
                oracle = drawn_oracle(rnd, k, 20)
                table = rnd.choice([random_table(rnd, k, rnd.randrange(1, 4)), rnd.choice(faithful_tables(k))])
                if table.labels > 6:
                    continue
                naming = [rnd.randrange(table.labels) for _ in range(oracle.ingredients)]
                rows = plain_rows(oracle, table, naming)
                told = self.check(oracle, table, naming)
                kinds.add(told[0])
                if rows is None or any(len(row) > 1 for row in rows):
                    self.assertEqual(told[0], "mistake")
                else:
                    self.assertEqual(told, ("reading", tuple(row[0] if row else None for row in rows)))
        self.assertEqual(kinds, {"reading", "mistake"})

    def test_greater_tables_that_answer(self):
        rnd = generator(3)
        for k in SIZES:
            for m, d in ((1, 7), (2, 1), (2, 7 - k), (3, 1)):
                if case_number(m, d) > most_labels(k):
                    continue
                table, naming = standard_table(k, m, d), standard_naming(k, m, d)
                for answers in range(1, 4):
                    oracle = Oracle(k, m, d, [rnd.randrange(answers) for _ in all_cases(m, d)])
                    told = self.check(oracle, table, naming)
                    rows = classes(oracle)
                    wanted = [rows[at] for at in range(len(rows))]
                    if m == 1:
                        wanted = [0] + [None] * (table.labels - 1)
                    self.assertEqual(told, ("reading", tuple(wanted)))

    def test_tables_that_are_not_faithful(self):
        for k in SIZES:
            # The first cup tells more than the mixture, and yet both labels tell what is contained.
            results = [max(cups) if len(set(cups)) == 1 else 2 for cups in itertools.product(range(3), repeat=k)]
            oracle = Oracle(k, 2, 1, [0, 2, 1])
            self.assertEqual(reading(oracle, Table(k, 3, results), [0, 1]), ("reading", (0, 2, 1)))
            told = self.check(oracle, first_table(k, 3), [0, 1])
            self.assertEqual(told[0], "mistake")
            self.assertEqual(reading(Oracle(k, 2, 1, [5, 5, 5]), first_table(k, 3), [0, 2]), ("reading", (0, None, 0)))
        swapped = Table(2, 4, [0, 2, 2, 2, 3, 1, 3, 3, 2, 2, 2, 3, 2, 3, 2, 3])
        self.assertEqual(reading(Oracle(2, 2, 1, [0, 2, 1]), swapped, [0, 1]), ("reading", (0, 2, 1, 1)))

    def test_too_few_labels(self):
        rnd = generator(4)
        for k in SIZES:
            for _ in range(25):
                oracle = drawn_oracle(rnd, k, 100)
                many = least_size(oracle)
                for labels in range(1, min(many - 1, most_labels(k)) + 1):
                    table = rnd.choice([random_table(rnd, k, labels), least_table(k, labels)])
                    naming = [rnd.randrange(labels) for _ in range(oracle.ingredients)]
                    self.assertEqual(self.check(oracle, table, naming)[0], "mistake")

    def test_great_tables_and_oracles(self):
        rnd = generator(5)
        for k in SIZES:
            oracle = drawn_oracle(rnd, k, 400, 4)
            for table in (random_table(rnd, k, most_labels(k)), called_anew(rnd, least_table(k, most_labels(k)))):
                self.check(oracle, table, [rnd.randrange(table.labels) for _ in range(4)])
        oracle = remainder_oracle(2, [1, 0], 11, 3)
        self.assertEqual(self.check(oracle, mean_table(2, 11), [1, 0])[0], "reading")
        self.assertEqual(self.check(oracle, pair_table(mean_table(2, 3), mean_table(2, 3)), [1, 5])[0], "mistake")
        oracle = Oracle(5, 4, 6, list(range(400)))
        self.assertEqual(self.check(oracle, least_table(5, 3), [0, 1, 2, 2])[0], "mistake")


def called_table(table, names):
    results = {}
    for cups in itertools.product(range(table.labels), repeat=table.k):
        results[tuple(names[cup] for cup in cups)] = names[table.blend(cups)]
    return Table(table.k, table.labels, [results[cups] for cups in sorted(results)])


class MistakeTest(unittest.TestCase):
    def test_pairs_of_plans(self):
        rnd = generator(6)
        for k in SIZES:
            shown = 0
            for _ in range(200):
                oracle = drawn_oracle(rnd, k, 20)
                m = oracle.ingredients
                table = random_table(rnd, k, rnd.randrange(1, 4))
                naming = [rnd.randrange(table.labels) for _ in range(m)]
                recipes = [random_recipe(rnd, k, m, 3) for _ in range(2)]
                answers = [oracle.mixture_answer(mixture_of(k, m, recipe)) for recipe in recipes]
                labels = [label_of(table, naming, recipe) for recipe in recipes]
                wanted = answers[0] != answers[1] and labels[0] == labels[1]
                shown += wanted
                value = tuple(folded(k, m, recipe) for recipe in recipes)
                self.assertIs(is_mistake(oracle, table, naming, value), wanted)
            self.assertGreater(shown, 5)

    def test_any_value(self):
        oracle, table = Oracle(2, 2, 1, [1, 0, 0]), Table(2, 2, [0, 0, 0, 0])
        one, other = ((), 0), (((0, 1),), 2)
        self.assertIs(is_mistake(oracle, table, [0, 1], (one, other)), True)
        self.assertIs(is_mistake(oracle, table, [0, 1], (one, ((), 1))), False)
        deep = tuple((0, 0) for _ in range(999)) + ((1000, 1),)
        self.assertIs(is_mistake(oracle, table, [0, 1], (one, (deep, 1001))), True)
        wrong = [
            [one, other], (one, list(other)), (one, ([(0, 1)], 2)), (one, (((0, 1),), 3)), (one,), (one, other, other),
            (one, one), (one, (((0, True),), 2)), (one, (([0, 1],), 2)), (one, None), (0, (0, 1)), deep_value(200),
            (one, (deep + ((0, 0),), 0)),
        ]
        for value in wrong + list(ODD):
            self.assertIs(is_mistake(oracle, table, [0, 1], value), False, value)


class ErrorTest(unittest.TestCase):
    def check(self, oracle, table, naming, told):
        self.assertEqual(error_of(reading, oracle, table, naming), told, naming)
        self.assertEqual(error_of(is_mistake, oracle, table, naming, None), told, naming)

    def test_refused(self):
        for k in SIZES:
            oracle = Oracle(k, 2, 1, [1, 0, 0])
            for other in SIZES:
                for naming in ([0, 1], None, [9], []):
                    if other != k:
                        self.check(oracle, least_table(other, 3), naming, ("Refused", 0))

    def test_namings(self):
        oracle, table = Oracle(3, 2, 1, [1, 0, 0]), least_table(3, 3)
        for value in NO_SEQUENCES + ([], (), [0], [0, 1, 2], [0] * 12, [0] * 13):
            self.check(oracle, table, value, ("InvalidNaming", 12))
        for value in ODD + (3, 1.0):
            self.check(oracle, table, [0, value], ("InvalidNaming", 1))
            self.check(oracle, table, (value,), ("InvalidNaming", 0))
            self.check(oracle, table, [0, 1, 2, value], ("InvalidNaming", 3))

    def test_later_changes(self):
        naming = [0, 1]
        told = reading(Oracle(2, 2, 1, [1, 0, 0]), least_table(2, 2), naming)
        naming[1] = 0
        self.assertEqual(told, reading(Oracle(2, 2, 1, [1, 0, 0]), least_table(2, 2), (0, 1)))


if __name__ == "__main__":
    unittest.main()
