"""Point 68: closed sets."""

import itertools
import unittest

from mixlabels.closed import closed_sets, closure, generators, is_closed
from mixlabels.tables import Table
from tests.helpers import (
    NO_SEQUENCES, ODD, SIZES, deep_value, error_of, first_table, generator, least_table, most_labels, random_table,
)


def plainly_closed(table, some):
    return all(table.blend(cups) in some for cups in itertools.product(some, repeat=table.k))


def all_lots(labels):
    lots = [lot for many in range(labels + 1) for lot in itertools.combinations(range(labels), many)]
    return sorted(lots)


class ClosedTest(unittest.TestCase):
    def test_all_lots(self):
        rnd = generator(1)
        for k in SIZES:
            for labels in range(1, min(4, most_labels(k)) + 1):
                for _ in range(8):
                    self.check(random_table(rnd, k, labels))
                self.check(least_table(k, labels))

    def check(self, table):
        lots = all_lots(table.labels)
        closed = tuple(lot for lot in lots if plainly_closed(table, lot))
        self.assertEqual(closed_sets(table=table), closed)
        least = {}
        for lot in lots:
            self.assertIs(is_closed(table=table, value=lot), lot in closed)
            wanted = min((other for other in closed if set(lot) <= set(other)), key=len)
            self.assertEqual(closure(table=table, labels=list(reversed(lot)) + list(lot)), wanted)
            best = least.get(wanted)
            if best is None or (len(lot), lot) < (len(best), best):
                least[wanted] = lot
        for lot in lots:
            self.assertEqual(generators(table=table, labels=lot), least[closure(table, lot)])

    def test_greatest_tables(self):
        for k in SIZES:
            labels = most_labels(k)
            table = least_table(k, labels)
            self.assertEqual(len(closed_sets(table)), 2 ** labels)
            self.assertEqual(generators(table, list(range(labels))), tuple(range(labels)))
            self.assertEqual(closed_sets(first_table(k, labels)), tuple(all_lots(labels)))
            table = Table(k, labels, [(sum(cups) + 1) % labels for cups in itertools.product(range(labels), repeat=k)])
            self.assertTrue(is_closed(table, tuple(range(labels))))
            self.assertIn(len(generators(table, tuple(range(labels)))), (1, 2))

    def test_nothing(self):
        table = least_table(2, 3)
        self.assertIs(is_closed(table, ()), True)
        self.assertEqual(closure(table, ()), ())
        self.assertEqual(closure(table, []), ())
        self.assertEqual(generators(table, []), ())
        self.assertEqual(closed_sets(Table(2, 1, [0])), ((), (0,)))

    def test_is_closed_any_value(self):
        table = least_table(2, 3)
        wrong = [(1, 0), (0, 0), [0, 1], [], (0, 3), (True,), (0.0,), (0, 1.0), ((0,),), deep_value(300), "01", (-1, 0)]
        for value in wrong + [value for value in ODD if value != ()]:
            self.assertIs(is_closed(table, value), False, value)

    def test_refused(self):
        table = least_table(2, 3)
        for work in (closure, generators):
            for value in NO_SEQUENCES:
                self.assertEqual(error_of(work, table, value), ("InvalidNaming", 0), value)
            for value in ODD + (3, 1.0):
                for at in (0, 1, 15):
                    self.assertEqual(error_of(work, table, [0] * at + [value, None]), ("InvalidNaming", at), value)
        self.assertEqual(closure(table, [2] * 50 + [1]), (1, 2))


if __name__ == "__main__":
    unittest.main()
