"""Points 56 and 57: prices, gains and circles."""

import itertools
import unittest

from mixlabels.faults import fault
from mixlabels.prices import checked_prices, circle, excess, gain, loss
from mixlabels.tables import Table
from mixlabels.wheels import labels_in
from tests.faithful import drawn_faithful
from tests.helpers import (
    NO_SEQUENCES, ODD, SIZES, calm_table, deep_value, error_of, first_table, generator, least_table, most_labels,
    random_table,
)


def drawn_table(rnd, k):
    labels = rnd.randrange(1, most_labels(k) + 1)
    kind = rnd.randrange(7)
    if kind < 2:
        return drawn_faithful(rnd, k)
    if kind < 4:
        return sparse_table(rnd, k, max(labels, 2))
    return [random_table, calm_table, lambda rnd, k, n: calm_table(rnd, k, n, False)][kind - 4](rnd, k, labels)


def sparse_table(rnd, k, labels):
    """A few lots of cups come to something; like cups stay, all else comes to the last label."""
    results = {cups: cups[0] if len(set(cups)) == 1 else labels - 1
               for cups in itertools.product(range(labels), repeat=k)}
    for _ in range(rnd.randrange(1, 2 * labels)):
        results[tuple(rnd.randrange(labels - 1) for _ in range(k))] = rnd.randrange(labels)
    return Table(k, labels, list(results.values()))


def drawn_prices(rnd, labels):
    kind = rnd.randrange(5)
    if kind == 0:
        return [rnd.choice([-1000, 0, 7, 1000])] * labels
    if kind == 1:
        return [rnd.choice([-1000, 1000]) for _ in range(labels)]
    return [rnd.randint(-1000, 1000) if kind < 4 else rnd.randrange(3) for _ in range(labels)]


def surplus(table, prices, cups):
    return table.k * prices[table.blend(cups)] - sum(prices[cup] for cup in cups)


def all_cups(table):
    return itertools.product(range(table.labels), repeat=table.k)


def inside(table):
    return {(table.blend(cups), cup) for cups in all_cups(table) for cup in cups}


class GainTest(unittest.TestCase):
    def test_against_all_cups(self):
        rnd = generator(1)
        for k in SIZES:
            for _ in range(40):
                table = drawn_table(rnd, k)
                prices = drawn_prices(rnd, table.labels)
                gains = [cups for cups in all_cups(table) if surplus(table, prices, cups) > 0]
                losses = [cups for cups in all_cups(table) if surplus(table, prices, cups) < 0]
                self.assertEqual(gain(table=table, prices=prices), gains[0] if gains else None)
                self.assertEqual(loss(table=table, prices=tuple(prices)), losses[0] if losses else None)
                if not gains and not losses:
                    self.assertEqual(len(set(prices)), 1)
                if len(set(prices)) == 1:
                    self.assertEqual((gains, losses), ([], []))

    def test_excess(self):
        rnd = generator(2)
        for k in SIZES:
            for _ in range(40):
                table = drawn_table(rnd, k)
                prices = drawn_prices(rnd, table.labels)
                pairs = sorted((a, b) for a, b in inside(table) if prices[a] > prices[b])
                told = excess(table=table, prices=prices)
                self.assertEqual(told, pairs[0] if pairs else None)
                if told is None:
                    self.assertIsNone(gain(table, prices))
                if fault(table) is None:
                    self.assertEqual(gain(table, prices) is None, told is None)
                    for a, b in rnd.sample(pairs, min(len(pairs), 4)):
                        row = [(x,) + (b,) * (k - 1) for x in circle(table, a, b)]
                        self.assertTrue(any(surplus(table, prices, cups) > 0 for cups in row))

    def test_examples(self):
        table = least_table(2, 3)
        self.assertEqual(gain(table, [3, 2, 1]), (0, 1))
        self.assertIsNone(loss(table, [3, 2, 1]))
        self.assertEqual(loss(table, [1, 2, 3]), (0, 1))
        self.assertEqual(excess(table, [3, 2, 1]), (0, 1))
        self.assertIsNone(excess(table, [1, 1, 1]))
        self.assertEqual(excess(first_table(2, 2), [0, 5]), (1, 0))
        for k in SIZES:
            self.assertEqual((gain(Table(k, 1, [0]), [-1000]), excess(Table(k, 1, [0]), [1000])), (None, None))

    def test_prices(self):
        for k in SIZES:
            table = least_table(k, 3)
            self.assertEqual(checked_prices(table=table, prices=[-1000, 0, 1000]), (-1000, 0, 1000))
            self.assertEqual(checked_prices(table, (5, 5, 5)), (5, 5, 5))
            for work in (checked_prices, gain, loss, excess):
                for value in NO_SEQUENCES + ([], (), [1, 2], [1, 2, 3, 4], (0,) * 100):
                    self.assertEqual(error_of(work, table, value), ("InvalidPrices", 3), value)
                for value in ODD + (1.0, (1, 1)):
                    if value not in (-1, -7, 10 ** 30) or isinstance(value, (bool, float)):
                        for at in range(5):
                            row = [-5] * at + [value, None]
                            self.assertEqual(error_of(work, table, row), ("InvalidPrices", at), value)
                self.assertEqual(error_of(work, table, [1, 2, 3, None]), ("InvalidPrices", 3))
                self.assertEqual(error_of(work, table, deep_value(50)), ("InvalidPrices", 0))

    def test_later_changes(self):
        prices = [1, 2]
        told = checked_prices(least_table(2, 2), prices)
        prices[0] = 9
        self.assertEqual(told, (1, 2))


class CircleTest(unittest.TestCase):
    def test_circles(self):
        rnd = generator(3)
        kinds = set()
        for k in SIZES:
            for _ in range(40):
                table = drawn_table(rnd, k)
                for _ in range(6):
                    a, b = rnd.randrange(table.labels), rnd.randrange(table.labels)
                    row = [a]
                    while True:
                        label = table.blend([row[-1]] + [b] * (k - 1))
                        if label in row:
                            break
                        row.append(label)
                    at = row.index(label)
                    kinds.add(at > 0)
                    if at > 0:
                        self.assertEqual(error_of(circle, table, a, b), ("Refused", at))
                    else:
                        self.assertEqual(circle(table=table, a=a, b=b), tuple(row))
        self.assertEqual(kinds, {True, False})

    def test_faithful_tables(self):
        rnd = generator(4)
        for k in SIZES:
            for _ in range(8):
                table = drawn_faithful(rnd, k)
                for b in range(table.labels):
                    a = rnd.randrange(table.labels)
                    self.assertEqual(error_of(circle, table, a, b) is None, b in labels_in(table, a))

    def test_examples(self):
        turning = Table(2, 3, [1, 1, 0, 2, 2, 2, 0, 0, 1])
        self.assertEqual(circle(turning, 0, 0), (0, 1, 2))
        self.assertEqual(circle(first_table(3, 3), 2, 0), (2,))
        self.assertEqual(error_of(circle, Table(2, 3, [1, 0, 0, 2, 0, 0, 1, 0, 0]), 0, 0), ("Refused", 1))
        self.assertEqual(error_of(circle, Table(2, 3, [1, 0, 0, 2, 0, 0, 2, 0, 0]), 0, 0), ("Refused", 2))


if __name__ == "__main__":
    unittest.main()
