"""Points 71 to 73: full recipes, how many there are, and their order."""

import itertools
import math
import unittest

from mixlabels.closed import closure
from mixlabels.faults import fault
from mixlabels.fullness import counts_modulo, course, far_counts, full_counts, full_labels
from mixlabels.mixtures import made_mixture
from mixlabels.ranks import full_at, mixture_counts, rank_of
from mixlabels.recipes import ingredient_row
from mixlabels.tables import Table
from mixlabels.tasting import label_of
from tests.faithful import drawn_faithful
from tests.helpers import SIZES, all_rows, calm_table, error_of, first_table, generator, least_table, most_labels, random_table
from tests.test_guides import drawn_naming
from tests.test_prices import drawn_table

# Depths at which all full recipes of three ingredients can be walked through.
WALKED = {2: 2, 3: 1, 4: 1, 5: 1}


def full_recipes(k, ingredients, deep):
    found = list(range(ingredients))
    for _ in range(deep):
        found = list(itertools.product(found, repeat=k))
    return found


def next_lot(table, lot):
    return tuple(sorted({table.blend(cups) for cups in itertools.product(lot, repeat=table.k)}))


def turning_table(rnd, k, labels):
    """A table that need not keep the rule of order, but keeps labels if cups go round."""
    results = {}
    for cups in itertools.product(range(labels), repeat=k):
        rounds = [cups[at:] + cups[:at] for at in range(k)]
        results[cups] = results[min(rounds)] if min(rounds) in results else rnd.randrange(labels)
    return Table(k, labels, list(results.values()))


class LabelsTest(unittest.TestCase):
    def test_course(self):
        rnd = generator(1)
        starts = set()
        for k in SIZES:
            for _ in range(80):
                table = drawn_table(rnd, k)
                naming = drawn_naming(rnd, table)
                lots, start = course(table=table, naming=naming)
                wanted = [tuple(sorted(set(naming)))]
                while next_lot(table, wanted[-1]) not in wanted:
                    wanted.append(next_lot(table, wanted[-1]))
                self.assertEqual((lots, start), (tuple(wanted), wanted.index(next_lot(table, wanted[-1]))))
                starts.add(start - len(lots))
                for depth in (0, 1, 2, 5, 1000, 10 ** 18, 10 ** 18 - 1):
                    at = depth if depth < len(lots) else start + (depth - start) % (len(lots) - start)
                    self.assertEqual(full_labels(table=table, naming=tuple(naming), depth=depth), lots[at])
                if all(table.blend((label,) * k) == label for label in range(table.labels)):
                    self.assertEqual((start, lots[-1]), (len(lots) - 1, closure(table, naming)))
                    self.assertLessEqual(len(lots), table.labels)
        self.assertGreater(len(starts), 2)

    def test_labels_of_walked_recipes(self):
        rnd = generator(2)
        for k in SIZES:
            for _ in range(20):
                table = random_table(rnd, k, rnd.randrange(1, most_labels(k) + 1))
                naming = [rnd.randrange(table.labels) for _ in range(rnd.randrange(1, 4))]
                for deep in range(WALKED[k] + 1):
                    labels = [label_of(table, naming, recipe) for recipe in full_recipes(k, len(naming), deep)]
                    self.assertEqual(full_labels(table, naming, deep), tuple(sorted(set(labels))))
                    counts = full_counts(table=table, naming=naming, depth=deep)
                    self.assertEqual(counts, tuple(labels.count(label) for label in range(table.labels)))

    def test_labels_that_only_others_have(self):
        # 0 and 0 come to 1, 1 and 1 to 0, 0 and 1 to 2: 2 can be made, but not by a full recipe.
        table = Table(2, 3, [1, 2, 2, 2, 0, 2, 2, 2, 2])
        self.assertEqual(course(table, [0]), (((0,), (1,)), 0))
        self.assertEqual(closure(table, [0]), (0, 1, 2))
        self.assertEqual(full_labels(table, [0], 10 ** 18), (0,))
        self.assertEqual(full_labels(table, [0], 10 ** 18 + 1), (1,))
        for k in SIZES:
            labels = most_labels(k)
            round_about = Table(k, labels, [(cups[0] + 1) % labels for cups in itertools.product(range(labels), repeat=k)])
            self.assertEqual(course(round_about, [0]), (tuple((label,) for label in range(labels)), 0))
            self.assertEqual(full_labels(round_about, [0], 10 ** 18), (10 ** 18 % labels,))

    def test_a_way_into_a_circle(self):
        for k in SIZES:
            labels = most_labels(k)
            for start in range(labels):
                after = list(range(1, labels)) + [start]
                table = Table(k, labels, [after[cups[0]] for cups in itertools.product(range(labels), repeat=k)])
                self.assertEqual(course(table, [0]), (tuple((label,) for label in range(labels)), start))
                label = 0
                for depth in range(3 * labels):
                    self.assertEqual(full_labels(table, [0], depth), (label,))
                    label = after[label]
                far = 10 ** 18
                self.assertEqual(full_labels(table, [0], far), (start + (far - start) % (labels - start),))


class CountsTest(unittest.TestCase):
    def test_sums_and_remainders(self):
        rnd = generator(3)
        deepest = {2: 10, 3: 6, 4: 5, 5: 4}
        for k in SIZES:
            for _ in range(25):
                table = drawn_table(rnd, k)
                naming = drawn_naming(rnd, table, 12)
                for deep in (0, 1, 3, deepest[k]):
                    counts = full_counts(table, naming, deep)
                    self.assertEqual(sum(counts), len(naming) ** k ** deep)
                    for modulus in (1, 2, 97, 10 ** 9):
                        told = counts_modulo(table=table, naming=naming, depth=deep, modulus=modulus)
                        self.assertEqual(told, tuple(many % modulus for many in counts))
                told = error_of(full_counts, table, naming, deepest[k] + 1)
                self.assertEqual(told, ("Refused", deepest[k] + 1))

    def test_one_depth_more(self):
        # What is told for one depth tells the next one, however deep.
        rnd = generator(4)
        for k in SIZES:
            table = random_table(rnd, k, most_labels(k) if k < 5 else 2)
            naming = drawn_naming(rnd, table)
            before = counts_modulo(table, naming, 999, 10 ** 9)
            found = [0] * table.labels
            for cups in itertools.product(range(table.labels), repeat=k):
                found[table.blend(cups)] += math.prod(before[cup] for cup in cups)
            self.assertEqual(counts_modulo(table, naming, 1000, 10 ** 9), tuple(many % 10 ** 9 for many in found))

    def test_refused_depths(self):
        for k in SIZES:
            table = least_table(k, 2)
            for depth in (1000, 10 ** 18, 11, 12):
                self.assertEqual(error_of(full_counts, table, [0, 1], depth), ("Refused", depth))
            self.assertEqual(full_counts(table, [1], 0), (0, 1))
            self.assertEqual(counts_modulo(table, [1, 1], 0, 2), (0, 0))
            self.assertEqual(counts_modulo(table, [0, 1], 1000, 1), (0, 0))

    def test_far_counts(self):
        rnd = generator(5)
        primes = {2: 2, 3: 3, 4: 2, 5: 5}
        for k in SIZES:
            for _ in range(40):
                labels = rnd.randrange(1, most_labels(k) + 1)
                table = rnd.choice([turning_table(rnd, k, labels), calm_table(rnd, k, labels, False), drawn_faithful(rnd, k)])
                naming = drawn_naming(rnd, table, 12)
                for depth in (0, 1, 2, 3, 7, 40):
                    wanted = counts_modulo(table, naming, depth, primes[k])
                    self.assertEqual(far_counts(table=table, naming=naming, depth=depth), wanted)
                for depth in (1000, 10 ** 18, 10 ** 18 - 1):
                    self.check_far(table, naming, depth, primes[k])

    def check_far(self, table, naming, depth, prime):
        after = [table.blend((label,) * table.k) for label in range(table.labels)]
        wanted = [0] * table.labels
        for label in naming:
            path = [label]
            while after[path[-1]] not in path:
                path.append(after[path[-1]])
            start = path.index(after[path[-1]])
            at = depth if depth < len(path) else start + (depth - start) % (len(path) - start)
            wanted[path[at]] += 1
        self.assertEqual(far_counts(table, naming, depth), tuple(many % prime for many in wanted))

    def test_tables_that_do_not_turn(self):
        rnd = generator(6)
        for k in SIZES:
            for _ in range(30):
                table = random_table(rnd, k, rnd.randrange(2, most_labels(k) + 1))
                tuples = list(itertools.product(range(table.labels), repeat=k))
                wrong = [at for at, cups in enumerate(tuples) if table.blend(cups) != table.blend(cups[1:] + cups[:1])]
                told = error_of(far_counts, table, drawn_naming(rnd, table), rnd.choice((0, 10 ** 18)))
                self.assertEqual(told, ("Refused", wrong[0]) if wrong else None)
            self.assertEqual(error_of(far_counts, first_table(k, 2), [0], 0), ("Refused", 2 ** (k - 2)))
            last = Table(k, 2, [0] * (2 ** k - 1) + [1])
            self.assertEqual(far_counts(last, [0, 1], 10 ** 18), (1, 1))


class RanksTest(unittest.TestCase):
    def test_all_full_recipes(self):
        rnd = generator(7)
        for k in SIZES:
            for _ in range(12):
                table = random_table(rnd, k, rnd.randrange(1, most_labels(k) + 1))
                naming = [rnd.randrange(table.labels) for _ in range(rnd.randrange(1, 4))]
                for deep in range(WALKED[k] + 1):
                    rows = {}
                    for recipe in full_recipes(k, len(naming), deep):
                        rows.setdefault(label_of(table, naming, recipe), []).append(recipe)
                    for label in range(table.labels):
                        row = rows.get(label, [])
                        for index in {0, 1, len(row) // 2, len(row) - 1} & set(range(len(row))):
                            found = full_at(table=table, naming=naming, depth=deep, label=label, index=index)
                            self.assertEqual(found, row[index])
                            self.assertEqual(rank_of(table=table, naming=naming, recipe=found), index)
                        for index in (len(row), len(row) + 1, 10 ** 30):
                            told = error_of(full_at, table, naming, deep, label, index)
                            self.assertEqual(told, ("Refused", len(row)))

    def test_great_recipes(self):
        rnd = generator(8)
        deepest = {2: 6, 3: 3, 4: 3, 5: 2}
        for k in SIZES:
            for _ in range(8):
                table = drawn_table(rnd, k)
                naming = tuple(drawn_naming(rnd, table, 12))
                counts = full_counts(table, naming, deepest[k])
                for label in range(table.labels):
                    self.assertEqual(error_of(full_at, table, naming, deepest[k], label, counts[label]), ("Refused", counts[label]))
                    if counts[label]:
                        indexes = {0, counts[label] - 1, rnd.randrange(counts[label]), rnd.randrange(counts[label])}
                        found = [full_at(table, naming, deepest[k], label, index) for index in sorted(indexes)]
                        self.assertEqual(found, sorted(found))
                        for recipe, index in zip(found, sorted(indexes)):
                            self.assertEqual(label_of(table, naming, recipe), label)
                            self.assertEqual(len(ingredient_row(recipe)), k ** deepest[k])
                            self.assertEqual(rank_of(table, naming, recipe), index)

    def test_one_ingredient(self):
        for k in SIZES:
            table = least_table(k, 2)
            self.assertEqual(full_at(table, [1, 1, 0], 0, 1, 1), 1)
            self.assertEqual(rank_of(table, [1, 1, 0], 2), 0)
            self.assertEqual(error_of(full_at, table, [1, 1, 0], 0, 1, 2), ("Refused", 2))
            self.assertEqual(full_at(table, [1], 1, 1, 0), (0,) * k)


class MixtureCountsTest(unittest.TestCase):
    def test_all_full_recipes(self):
        rnd = generator(9)
        for k in SIZES:
            for _ in range(12):
                table = random_table(rnd, k, rnd.randrange(1, most_labels(k) + 1))
                naming = [rnd.randrange(table.labels) for _ in range(rnd.randrange(1, 4))]
                for deep in range(WALKED[k] + 1):
                    rows = {}
                    for recipe in full_recipes(k, len(naming), deep):
                        row = ingredient_row(recipe)
                        counts = tuple(row.count(i) for i in range(len(naming)))
                        label = label_of(table, naming, recipe)
                        rows.setdefault(counts, [0] * table.labels)[label] += 1
                    for counts, wanted in rows.items():
                        mixture = made_mixture(k, deep, counts)
                        if mixture[0] == deep:
                            found = mixture_counts(table=table, naming=naming, mixture=mixture)
                            self.assertEqual(found, tuple(wanted))

    def test_sums(self):
        rnd = generator(10)
        for k in SIZES:
            for _ in range(15):
                table = drawn_table(rnd, k)
                naming = drawn_naming(rnd, table, 12)
                deep = {2: 4, 3: 2, 4: 2, 5: 1}[k]
                counts = [0] * len(naming)
                for _ in range(k ** deep):
                    counts[rnd.randrange(len(naming))] += 1
                n, counts = made_mixture(k, deep, counts)
                found = mixture_counts(table, naming, (n, counts))
                self.assertEqual(len(found), table.labels)
                wanted = math.factorial(k ** n) // math.prod(math.factorial(count) for count in counts)
                self.assertEqual(sum(found), wanted)
                if fault(table) is None:
                    self.assertEqual(sum(1 for many in found if many), 1)

    def test_counts_together(self):
        # The numbers for all mixtures together are those of all full recipes.
        rnd = generator(11)
        for k, deep in ((2, 3), (3, 2), (4, 1), (5, 1)):
            table = random_table(rnd, k, most_labels(k))
            naming = [rnd.randrange(table.labels) for _ in range(3)]
            total = [0] * table.labels
            for row in all_rows(k ** deep, 3):
                if any(count % k for count in row):
                    found = mixture_counts(table, naming, (deep, row))
                    total = [a + b for a, b in zip(total, found)]
            rest = [0] * table.labels
            for recipe in full_recipes(k, 3, deep) if k > 3 or deep < 3 else full_recipes(k, 3, deep):
                row = ingredient_row(recipe)
                if not any(row.count(i) % k for i in range(3)):
                    rest[label_of(table, naming, recipe)] += 1
            self.assertEqual(tuple(a + b for a, b in zip(total, rest)), full_counts(table, naming, deep))

    def test_many_ingredients(self):
        rnd = generator(12)
        for k in SIZES:
            table = random_table(rnd, k, most_labels(k))
            deep = {2: 4, 3: 2, 4: 2, 5: 1}[k]
            counts = [0] * 12
            for at in range(k ** deep):
                counts[at % 12] += 1
            found = mixture_counts(table, [i % table.labels for i in range(12)], (deep, tuple(counts)))
            self.assertEqual(sum(found), math.factorial(k ** deep) // math.prod(math.factorial(count) for count in counts))
            self.assertEqual(mixture_counts(table, [0, 1], (0, (0, 1))), tuple(int(label == 1) for label in range(table.labels)))

    def test_fact(self):
        # If all full recipes of each mixture have one label, order and grid are kept.
        rnd = generator(13)
        kinds = set()
        for k, labels in ((2, 2), (2, 3), (3, 2), (4, 2)):
            for _ in range(60):
                table = rnd.choice((calm_table(rnd, k, labels), calm_table(rnd, k, labels, False), least_table(k, labels)))
                naming = list(range(labels))
                mixtures = [(2, row) for row in all_rows(k * k, labels) if any(count % k for count in row)]
                mixtures += [(1, row) for row in all_rows(k, labels) if any(count % k for count in row)]
                single = all(sum(1 for many in mixture_counts(table, naming, mixture) if many) == 1 for mixture in mixtures)
                wrong = fault(table)
                if single and wrong is not None:
                    self.assertEqual(wrong[0], "same")
                kinds.add(single)
        self.assertEqual(kinds, {True, False})


if __name__ == "__main__":
    unittest.main()
