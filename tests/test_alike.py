"""Point 37: tables that are alike but for the names of their labels."""

import itertools
import math
import unittest

from mixlabels.alike import faithful_count, kinds, likeness, symmetry_count
from mixlabels.combining import mean_table, pair_table
from mixlabels.faults import fault
from mixlabels.forms import form_table, renamed
from mixlabels.tables import Table
from tests.faithful import (
    called_anew, chain_form, drawn_faithful, klein_form, star_table, unfaithful_tables,
)
from tests.helpers import SIZES, error_of, generator, least_table, most_labels


def all_names(one, other):
    """All names that lead from one table to the other, by a walk through all orders of the labels."""
    if (one.k, one.labels) != (other.k, other.labels):
        return []
    rows = itertools.permutations(range(one.labels))
    return [names for names in rows if renamed(one, names) == other]


def small_tables(rnd, k, many, most=4):
    found = []
    while len(found) < many:
        table = drawn_faithful(rnd, k)
        if table.labels <= most:
            found.append(table)
    return found


def plain_faithful(k, labels):
    """All faithful tables with so many labels, by a walk through all tables that keep two rules."""
    lots = list(itertools.combinations_with_replacement(range(labels), k))
    free = [lot for lot in lots if len(set(lot)) > 1]
    found = []
    for told in itertools.product(range(labels), repeat=len(free)):
        blends = dict(zip(free, told))
        rows = [blends.get(tuple(sorted(cups)), cups[0]) for cups in itertools.product(range(labels), repeat=k)]
        table = Table(k, labels, rows)
        if fault(table) is None:
            found.append(table)
    return found


class LikenessTest(unittest.TestCase):
    def test_against_all_names(self):
        rnd = generator(1)
        for k in SIZES:
            tables = small_tables(rnd, k, 7)
            tables += [called_anew(rnd, table) for table in tables]
            for one, other in itertools.product(tables, repeat=2):
                names = all_names(one, other)
                self.assertEqual(likeness(one=one, other=other), names[0] if names else None)
            for table in tables:
                self.assertEqual(symmetry_count(table=table), len(all_names(table, table)))

    def test_six_labels(self):
        rnd = generator(2)
        for k, labels in ((2, 6), (3, 6), (4, 5), (5, 3)):
            table = star_table(k, labels)
            self.assertEqual(symmetry_count(table), math.factorial(labels - 1))
            self.assertEqual(symmetry_count(least_table(k, labels)), 1)
            for one in (table, least_table(k, labels)):
                other = called_anew(rnd, one)
                names = likeness(one, other)
                self.assertTrue(renamed(one, names) == other)
                self.assertIsInstance(names, tuple)
                self.assertEqual(likeness(one, one), tuple(range(labels)))
            self.assertIsNone(likeness(table, least_table(k, labels)))
        self.assertEqual(symmetry_count(mean_table(2, 5)), 20)
        self.assertEqual(symmetry_count(pair_table(least_table(2, 2), mean_table(2, 3))), 6)

    def test_unlike_sizes(self):
        self.assertIsNone(likeness(least_table(2, 3), least_table(2, 4)))
        self.assertIsNone(likeness(least_table(2, 3), least_table(3, 3)))
        self.assertIsNone(likeness(Table(2, 1, [0]), Table(3, 1, [0])))
        self.assertEqual(likeness(Table(2, 1, [0]), Table(2, 1, [0])), (0,))

    def test_not_faithful(self):
        for k in SIZES:
            for table, at in unfaithful_tables(k):
                good = least_table(k, 2)
                self.assertEqual(error_of(likeness, table, good), ("NotFaithful", at))
                self.assertEqual(error_of(likeness, good, table), ("NotFaithful", at))
                self.assertEqual(error_of(symmetry_count, table), ("NotFaithful", at))
                for other, _ in unfaithful_tables(5 if k == 2 else 2):
                    self.assertEqual(error_of(likeness, table, other), ("NotFaithful", at))


class KindTest(unittest.TestCase):
    def test_against_a_walk_through_all(self):
        for k, labels in ((2, 1), (2, 2), (2, 3), (2, 4), (3, 1), (3, 2), (3, 3), (4, 1), (4, 2), (5, 1), (5, 2)):
            tables = plain_faithful(k, labels)
            firsts = {min(renamed(table, names).results for names in itertools.permutations(range(labels)))
                      for table in tables}
            told = kinds(k=k, labels=labels)
            self.assertIsInstance(told, tuple)
            self.assertEqual([table.results for table in told], sorted(firsts))
            self.assertEqual(faithful_count(k=k, labels=labels), len(tables))

    def test_drawn_tables_are_among_them(self):
        rnd = generator(3)
        for k in SIZES:
            told = {labels: kinds(k, labels) for labels in range(1, min(4, most_labels(k)) + 1)}
            more = [form_table(klein_form(k)), mean_table(k, 4), form_table(chain_form(k, (2, 2), [(1, 1)]))] if k == 3 else []
            for table in small_tables(rnd, k, 25) + more:
                self.assertEqual(len([kind for kind in told[table.labels] if likeness(kind, table)]), 1)
            for labels, row in told.items():
                for table in row:
                    self.assertEqual((table.k, table.labels, fault(table)), (k, labels, None))
                    for names in itertools.permutations(range(labels)):
                        self.assertLessEqual(table.results, renamed(table, names).results)
                many = sum(math.factorial(labels) // symmetry_count(table) for table in row)
                self.assertEqual(faithful_count(k, labels), many)

    def test_examples(self):
        self.assertEqual((faithful_count(2, 3), faithful_count(2, 4), faithful_count(3, 3)), (10, 92, 18))
        self.assertEqual((faithful_count(4, 4), faithful_count(3, 4)), (92, 200))
        self.assertEqual(faithful_count(5, 3), 19)

    def test_refused(self):
        for k in SIZES:
            for labels in (0, 5, 6, 12, 13, 100, -1):
                self.assertEqual(error_of(kinds, k, labels), ("InvalidTable", 0))
                self.assertEqual(error_of(faithful_count, k, labels), ("InvalidTable", 0))
        self.assertEqual(error_of(kinds, 5, 4), ("InvalidTable", 0))
        self.assertEqual(error_of(faithful_count, 5, 4), ("InvalidTable", 0))


if __name__ == "__main__":
    unittest.main()
