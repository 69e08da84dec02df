"""Points 31 and 32: wheels of faithful tables, and their sums."""

import itertools
import math
import unittest

from mixlabels.cases import all_cases
from mixlabels.combining import mean_table, pair_table
from mixlabels.fillings import least_depth, mixture_at
from mixlabels.lifting import mixture_label
from mixlabels.mixtures import remainders
from mixlabels.tables import Table
from mixlabels.wheels import (
    exponent, labels_in, many_times, table_modulus, wheel_of, wheel_sum, wheels,
)
from tests.faithful import called_anew, drawn_faithful, faithful_tables, unfaithful_tables
from tests.helpers import SIZES, error_of, generator, least_table, moduli_of, most_labels


def plain_inside(table):
    found = {(a, a) for a in range(table.labels)}
    for cups in itertools.product(range(table.labels), repeat=table.k):
        found |= {(table.blend(cups), cup) for cup in cups}
    return found


def plain_wheels(table):
    """All wheels, by a walk from label to label."""
    inside = plain_inside(table)
    rows = {tuple(b for b in range(table.labels) if (a, b) in inside and (b, a) in inside) for a in range(table.labels)}
    return tuple(sorted(rows))


def plain_sum(table, wheel, o, a, b):
    goal = table.blend([a, b] + [o] * (table.k - 2))
    found = [c for c in wheel if table.blend([c] + [o] * (table.k - 1)) == goal]
    assert len(found) == 1
    return found[0]


class WheelTest(unittest.TestCase):
    def test_against_the_words(self):
        rnd = generator(1)
        for k in SIZES:
            for table in [called_anew(rnd, table) for table in rnd.sample(faithful_tables(k), 20)]:
                inside = plain_inside(table)
                told = wheels(table=table)
                self.assertEqual(told, plain_wheels(table))
                for a in rnd.sample(range(table.labels), min(table.labels, 4)):
                    self.assertEqual(labels_in(table=table, a=a), tuple(b for b in range(table.labels) if (a, b) in inside))
                    self.assertIn(a, told[wheel_of(table=table, a=a)])
                for a, b, c in itertools.product(range(table.labels), repeat=3):
                    if (a, b) in inside and (b, c) in inside:
                        self.assertIn((a, c), inside)
                for number, wheel in enumerate(told):
                    self.assertEqual(math.gcd(len(wheel), k), 1)
                    for cups in itertools.islice(itertools.product(wheel, repeat=k), 100):
                        self.assertIn(table.blend(cups), wheel)
                    self.assertEqual(wheel_of(table, wheel[-1]), number)

    def test_one_wheel_and_as_many_as_labels(self):
        for k in SIZES:
            most = most_labels(k)
            self.assertEqual(wheels(least_table(k, most)), tuple((a,) for a in range(most)))
            self.assertEqual(wheels(Table(k, 1, [0])), ((0,),))
            size = max(d for d in range(1, most + 1) if math.gcd(d, k) == 1)
            self.assertEqual(wheels(mean_table(k, size)), (tuple(range(size)),))
            self.assertEqual(labels_in(mean_table(k, size), size - 1), tuple(range(size)))
            self.assertEqual(labels_in(least_table(k, most), 0), tuple(range(most)))
            self.assertEqual(labels_in(least_table(k, most), most - 1), (most - 1,))

    def test_not_faithful(self):
        for k in SIZES:
            for table, at in unfaithful_tables(k):
                for work, more in (
                    (labels_in, (0,)), (wheels, ()), (wheel_of, (0,)), (wheel_sum, (0, 1, 2)), (exponent, (0,)),
                    (many_times, (0, 2, 5)), (table_modulus, ()),
                ):
                    self.assertEqual(error_of(work, table, *more), ("NotFaithful", at), work)


class SumTest(unittest.TestCase):
    def test_sums_are_groups(self):
        rnd = generator(2)
        for k in SIZES:
            for table in rnd.sample(faithful_tables(k), 20) + [drawn_faithful(rnd, k) for _ in range(5)]:
                for wheel in wheels(table):
                    self.check(rnd, table, wheel)

    def check(self, rnd, table, wheel):
        k = table.k
        o = rnd.choice(wheel)
        sums = {(a, b): plain_sum(table, wheel, o, a, b) for a in wheel for b in wheel}
        for a, b in rnd.sample(sorted(sums), min(len(sums), 12)):
            self.assertEqual(wheel_sum(table=table, o=o, a=a, b=b), sums[a, b])
            self.assertEqual(sums[a, b], sums[b, a])
            for c in wheel:
                self.assertEqual(sums[sums[a, b], c], sums[a, sums[b, c]])
        for a in wheel:
            self.assertEqual(sums[o, a], a)
        for cups in [rnd.choices(wheel, k=k) for _ in range(10)]:
            # k times the blend is the sum of the cups.
            total, blend = o, o
            for cup in cups:
                total = sums[total, cup]
                blend = sums[blend, table.blend(cups)]
            self.assertEqual(total, blend)

    def test_many_times(self):
        rnd = generator(3)
        for k in SIZES:
            for table in rnd.sample(faithful_tables(k), 12):
                wheel = rnd.choice(wheels(table))
                o, a = rnd.choice(wheel), rnd.choice(wheel)
                total, row = o, []
                for n in range(30):
                    row.append(total)
                    self.assertEqual(many_times(table=table, o=o, a=a, n=n), total)
                    total = plain_sum(table, wheel, o, total, a)
                for n in range(1, 15):
                    below = many_times(table, o, a, -n)
                    self.assertEqual(plain_sum(table, wheel, o, below, row[n]), o)
                period = exponent(table, o)
                for n in (10 ** 18 - 1, 1 - 10 ** 18, 123456789012345678, -123456789012345678):
                    self.assertEqual(many_times(table, o, a, n), row[n % period])
                self.assertEqual(many_times(table, o, a, 0), o)

    def test_exponents(self):
        rnd = generator(4)
        for k in SIZES:
            for table in rnd.sample(faithful_tables(k), 15):
                told = []
                for wheel in wheels(table):
                    o = rnd.choice(wheel)
                    wanted, sums = 1, {a: a for a in wheel}
                    while any(total != o for total in sums.values()):
                        sums = {a: plain_sum(table, wheel, o, total, a) for a, total in sums.items()}
                        wanted += 1
                    for zero in wheel:
                        self.assertEqual(exponent(table=table, o=zero), wanted)
                    told.append(wanted)
                self.assertEqual(table_modulus(table=table), math.lcm(*told))
        self.assertEqual(table_modulus(mean_table(2, 9)), 9)
        self.assertEqual(exponent(pair_table(mean_table(2, 3), mean_table(2, 3)), 4), 3)
        self.assertEqual(exponent(mean_table(3, 8), 5), 8)

    def test_labels_of_other_wheels(self):
        table = pair_table(least_table(2, 3), mean_table(2, 3))
        self.assertEqual(wheels(table), ((0, 1, 2), (3, 4, 5), (6, 7, 8)))
        self.assertEqual(error_of(wheel_sum, table, 0, 3, 6), ("Refused", 3))
        self.assertEqual(error_of(wheel_sum, table, 0, 2, 6), ("Refused", 6))
        self.assertEqual(error_of(wheel_sum, table, 4, 0, 5), ("Refused", 0))
        self.assertEqual(error_of(many_times, table, 4, 8, 0), ("Refused", 8))
        self.assertEqual(error_of(many_times, table, 8, 4, -3), ("Refused", 4))
        self.assertIsNone(error_of(wheel_sum, table, 4, 3, 5))
        for k in SIZES:
            self.assertEqual(error_of(wheel_sum, least_table(k, 3), 1, 2, 0), ("Refused", 2))

    def test_the_modulus_tells_which_recipes_are_alike(self):
        rnd = generator(5)
        for k in SIZES:
            tables = [table for table in faithful_tables(k) if table.labels <= 5]
            for table in rnd.sample(tables, 3) + [mean_table(k, 7 - k)]:
                modulus = table_modulus(table)
                for d in moduli_of(k, 6):
                    self.assertIs(self.tells_all(table, d), d % modulus == 0)

    def tells_all(self, table, d):
        """Whether mixtures of two ingredients with one case modulo d have one label, under all namings."""
        k = table.k
        whole = math.lcm(d, table_modulus(table))
        told = {}
        for case in all_cases(2, whole):
            mixture = mixture_at(k, whole, case, least_depth(k, whole, case), 0)
            around = (case[0], remainders(k, mixture, d))
            for naming in itertools.product(range(table.labels), repeat=2):
                label = mixture_label(table, naming, mixture)
                if told.setdefault((around, naming), label) != label:
                    return False
        return True


if __name__ == "__main__":
    unittest.main()
