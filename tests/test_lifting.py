"""Points 33 and 34: joins and lifts, and labels by shares."""

import itertools
import unittest

from mixlabels.cases import all_cases, case_of
from mixlabels.combining import mean_table, pair_table
from mixlabels.fillings import least_depth, mixture_at
from mixlabels.lifting import case_label, lift, mixture_label, wheel_joins
from mixlabels.lines import line_label
from mixlabels.mixtures import made_mixture, mixture_of
from mixlabels.standard import standard_naming, standard_table
from mixlabels.tables import Table
from mixlabels.tasting import label_of
from mixlabels.wheels import labels_in, table_modulus, wheel_of, wheel_sum, wheels
from tests.faithful import called_anew, drawn_faithful, faithful_tables, unfaithful_tables
from tests.helpers import (
    NO_SEQUENCES, ODD, SIZES, deep_value, error_of, generator, least_table, most_labels, random_recipe,
)


def plain_lift(table, a, b, p):
    for _ in range(p):
        a = table.blend([a] + [b] * (table.k - 1))
    return a


class JoinTest(unittest.TestCase):
    def test_joins(self):
        rnd = generator(1)
        for k in SIZES:
            for table in [called_anew(rnd, table) for table in rnd.sample(faithful_tables(k), 16)]:
                rows = wheels(table)
                joins = wheel_joins(table=table)
                inside = [labels_in(table, a) for a in range(table.labels)]
                number = {a: at for at, wheel in enumerate(rows) for a in wheel}
                self.assertEqual([len(row) for row in joins], [len(rows)] * len(rows))
                for cups in itertools.islice(itertools.product(range(table.labels), repeat=k), 300):
                    some = sorted({number[cup] for cup in cups})
                    if len(some) <= 2:
                        self.assertEqual(joins[some[0]][some[-1]], number[table.blend(cups)])
                for v, w in itertools.product(range(len(rows)), repeat=2):
                    all_in = all(a in inside[b] for a in rows[v] for b in rows[w])
                    self.assertEqual(joins[v][w] == w, all_in)
                    self.assertIsInstance(joins[v], tuple)

    def test_example(self):
        self.assertEqual(wheel_joins(least_table(2, 3)), ((0, 0, 0), (0, 1, 1), (0, 1, 2)))
        self.assertEqual(wheel_joins(mean_table(3, 8)), ((0,),))
        self.assertEqual(wheel_joins(Table(5, 1, [0])), ((0,),))


class LiftTest(unittest.TestCase):
    def test_lifts(self):
        rnd = generator(2)
        for k in SIZES:
            for _ in range(12):
                table = drawn_faithful(rnd, k)
                modulus = table_modulus(table)
                periods = [p for p in range(1, 25) if (k ** p - 1) % modulus == 0]
                pairs = [(a, b) for b in range(table.labels) for a in labels_in(table, b)]
                for a, b in rnd.sample(pairs, min(len(pairs), 10)):
                    self.check(table, a, b, periods[:3])

    def check(self, table, a, b, periods):
        found = lift(table=table, a=a, b=b)
        mates = wheels(table)[wheel_of(table, b)]
        self.assertIn(found, mates)
        for p in periods:
            for mate in mates:
                self.assertEqual(plain_lift(table, a, mate, p), found)
        if a in mates:
            self.assertEqual(found, a)

    def test_lifts_keep_blends_and_go_on(self):
        rnd = generator(3)
        for k in SIZES:
            for _ in range(6):
                table = drawn_faithful(rnd, k)
                rows, joins = wheels(table), wheel_joins(table)
                above = [(v, w) for v in range(len(rows)) for w in range(len(rows)) if joins[v][w] == w]
                v, w = rnd.choice(above)
                goal = rows[w][0]
                lifts = {a: lift(table, a, goal) for a in rows[v]}
                for cups in [rnd.choices(rows[v], k=k) for _ in range(10)]:
                    self.assertEqual(lifts[table.blend(cups)], table.blend([lifts[cup] for cup in cups]))
                for u in range(len(rows)):
                    if joins[w][u] == u:
                        for a in rows[v]:
                            self.assertEqual(lift(table, lifts[a], rows[u][0]), lift(table, a, rows[u][0]))

    def test_labels_that_are_not_in(self):
        for k in SIZES:
            self.assertEqual(error_of(lift, least_table(k, 3), 0, 2), ("Refused", 0))
            self.assertEqual(error_of(lift, least_table(k, 3), 1, 2), ("Refused", 1))
            self.assertEqual(lift(least_table(k, 3), 2, 1), 1)
        table = pair_table(least_table(2, 2), mean_table(2, 3))
        self.assertEqual(error_of(lift, table, 2, 3), ("Refused", 2))
        self.assertEqual(lift(table, 4, 0), 1)

    def test_not_faithful(self):
        for k in SIZES:
            for table, at in unfaithful_tables(k):
                self.assertEqual(error_of(wheel_joins, table), ("NotFaithful", at))
                self.assertEqual(error_of(lift, table, 2, 0), ("NotFaithful", at))
                self.assertEqual(error_of(mixture_label, table, None, None), ("NotFaithful", at))
                self.assertEqual(error_of(case_label, table, [99], None), ("NotFaithful", at))


class LabelTest(unittest.TestCase):
    def test_labels_of_recipes(self):
        rnd = generator(4)
        for k in SIZES:
            for _ in range(25):
                table = drawn_faithful(rnd, k)
                naming = [rnd.randrange(table.labels) for _ in range(rnd.choice([1, 2, 3, 4, 12]))]
                modulus = table_modulus(table)
                for _ in range(6):
                    recipe = random_recipe(rnd, k, len(naming), 4)
                    label = label_of(table, naming, recipe)
                    mixture = mixture_of(k, len(naming), recipe)
                    self.assertEqual(mixture_label(table=table, naming=naming, mixture=mixture), label)
                    case = case_of(k, mixture, modulus)
                    self.assertEqual(case_label(table=table, naming=tuple(naming), value=case), label)

    def test_the_sum_of_the_lifts(self):
        rnd = generator(5)
        for k in SIZES:
            for _ in range(12):
                table = drawn_faithful(rnd, k)
                cups = [rnd.randrange(table.labels) for _ in range(k)]
                zero = table.blend(cups)
                total, often = zero, zero
                for cup in cups:
                    total = wheel_sum(table, zero, total, lift(table, cup, zero))
                    often = wheel_sum(table, zero, often, zero)
                self.assertEqual(total, often)

    def test_depth_1000(self):
        rnd = generator(6)
        for k in SIZES:
            for table in rnd.sample(faithful_tables(k), 12):
                naming = [rnd.randrange(table.labels) for _ in range(3)]
                mixture = (1000, (0, 1, k ** 1000 - 1))
                self.assertEqual(mixture_label(table, naming, mixture), line_label(table, naming, 1, 2, 1000))
            counts = [k ** 1000 - 13 * k, 11 * k - 1, 2 * k + 1]
            self.assertEqual(made_mixture(k, 1000, counts), (1000, tuple(counts)))
            table = least_table(k, 3)
            self.assertEqual(mixture_label(table, [2, 1, 2], (1000, tuple(counts))), 1)

    def test_all_cases(self):
        for k in SIZES:
            for m, d in ((1, 7), (2, 7 - k)):
                if ((1 + d) ** m - 1) // d <= most_labels(k):
                    table, naming = standard_table(k, m, d), standard_naming(k, m, d)
                    modulus = table_modulus(table)
                    self.assertEqual(modulus, d if m > 1 else 1)
                    for at, case in enumerate(all_cases(m, d)):
                        mixture = mixture_at(k, d, case, least_depth(k, d, case), 0)
                        self.assertEqual(mixture_label(table, naming, mixture), at)
                        if m > 1:
                            self.assertEqual(case_label(table, naming, case), at)
        table = mean_table(2, 11)
        self.assertEqual(case_label(table, [0, 1], ((0, 1), (5, 7))), 7)

    def test_namings(self):
        for k in SIZES:
            table = least_table(k, 3)
            for work in (mixture_label, case_label):
                for value in NO_SEQUENCES + ([], (), [0] * 13):
                    for other in (None, (0, (1, 0)), ((0,), (0,))):
                        self.assertEqual(error_of(work, table, value, other), ("InvalidNaming", 12), value)
                for value in ODD + (3,):
                    self.assertEqual(error_of(work, table, [0, value, None], None), ("InvalidNaming", 1), value)

    def test_no_mixtures(self):
        for k in SIZES:
            table = least_table(k, 3)
            wrong = [
                [0, (1, 0)], (0, [1, 0]), (0, (1,)), (0, (1, 0, 0)), (1, (k, 0)), (1, (1, 1, k - 2)), (True, (1, k - 1)),
                (-1, (1, 0)), (0, (True, False)), (0, (2, -1)), (0, (1, 0), 0), (0, None), (None, (1, 0)), (0, "10"),
                ((0,), (0, 0)), (10 ** 30, (1, 1)), deep_value(300), (1, (1.0, k - 1.0)),
            ]
            for value in wrong + list(ODD):
                self.assertEqual(error_of(mixture_label, table, [0, 1], value), ("InvalidMixture", 0), value)

    def test_no_cases(self):
        table = mean_table(2, 3)
        wrong = [
            [(0,), (1, 0)], ([0], (1, 0)), ((0,), [1, 0]), ((0,), (1,)), ((0,), (1, 0, 0)), ((), (0, 0)), ((0,), (4, 0)),
            ((1, 0), (1, 0)), ((0, 0), (1, 0)), ((0, 2), (1, 0)), ((0, 1), (1, 1)), ((0,), (0, 1)), ((0, 1), (-1, 2)),
            ((False,), (1, 0)), ((0,), (True, 0)), ((0,), None), (None, (1, 0)), ((0,), (1, 0), 0), (0, (1, 0)),
            ("0", (1, 0)), (0, 1), deep_value(300), ((0, 1), (1.0, 0)),
        ]
        for value in wrong + list(ODD):
            self.assertEqual(error_of(case_label, table, [0, 1], value), ("InvalidMixture", 0), value)
        self.assertEqual(case_label(table, [0, 1], ((0,), (1, 0))), 0)


if __name__ == "__main__":
    unittest.main()
