"""Point 60: the greatest worth."""

import itertools
import unittest
from fractions import Fraction

from mixlabels.closed import closure
from mixlabels.tables import Table
from mixlabels.trades import after, is_trade
from mixlabels.wheels import labels_in
from mixlabels.worth import is_worth, near_trade, worth
from tests.faithful import drawn_faithful
from tests.helpers import (
    NO_SEQUENCES, ODD, SIZES, deep_value, error_of, first_table, generator, least_table, most_labels, random_table,
)
from tests.test_costs import pair
from tests.test_prices import drawn_prices, drawn_table


def drawn_stock(rnd, labels):
    return [rnd.choice([0, 0, 1, rnd.randrange(1001), 1000]) for _ in range(labels)]


def goods_of(table, stock):
    return closure(table, [label for label, many in enumerate(stock) if many])


def plainly_worth(table, stock, prices, value, flow, limits):
    """Whether a triple is right, by the words; its numbers are fractions."""
    k, goods = table.k, goods_of(table, stock)
    if len({cups for cups, _ in flow}) < len(flow) or list(flow) != sorted(flow):
        return False
    if any(cup not in goods for cups, _ in flow for cup in cups) or any(amount <= 0 for _, amount in flow):
        return False
    amounts = [Fraction(many) for many in stock]
    for cups, amount in flow:
        for cup in cups:
            amounts[cup] -= amount
        amounts[table.blend(cups)] += k * amount
    if min(amounts) < 0 or sum(price * amount for price, amount in zip(prices, amounts)) != value:
        return False
    if any((limits[label] is None) == (label in goods) for label in range(table.labels)):
        return False
    if any(limits[good] < prices[good] for good in goods):
        return False
    for cups in itertools.product(goods, repeat=k):
        if k * limits[table.blend(cups)] > sum(limits[cup] for cup in cups):
            return False
    return sum(stock[good] * limits[good] for good in goods) == value


def as_fractions(told):
    value, flow, limits = told
    flow = [(cups, Fraction(*amount)) for cups, amount in flow]
    return Fraction(*value), flow, [None if limit is None else Fraction(*limit) for limit in limits]


def worth_at_end(table, stock, prices, trade):
    return sum(Fraction(*amount) * price for amount, price in zip(after(table, stock, trade), prices))


class WorthTest(unittest.TestCase):
    def test_conditions(self):
        rnd = generator(1)
        for k in SIZES:
            for _ in range(50):
                table = drawn_table(rnd, k)
                prices, stock = drawn_prices(rnd, table.labels), drawn_stock(rnd, table.labels)
                told = worth(table=table, stock=stock, prices=prices)
                self.assertIsInstance(told, tuple)
                self.assertTrue(plainly_worth(table, stock, prices, *as_fractions(told)))
                self.assertIs(is_worth(table=table, stock=tuple(stock), prices=tuple(prices), value=told), True)

    def test_faithful_tables(self):
        rnd = generator(2)
        for k in SIZES:
            for _ in range(10):
                table = drawn_faithful(rnd, k)
                prices, stock = drawn_prices(rnd, table.labels), drawn_stock(rnd, table.labels)
                goods = goods_of(table, stock)
                inside = {good: labels_in(table, good) for good in goods}
                wanted = sum(many * max(prices[good] for good in goods if b in inside[good])
                             for b, many in enumerate(stock) if many)
                self.assertEqual(worth(table, stock, prices)[0], (wanted, 1))

    def test_no_trade_is_worth_more(self):
        rnd = generator(3)
        for k in SIZES:
            for _ in range(40):
                table = random_table(rnd, k, rnd.randrange(1, 4))
                prices, stock = drawn_prices(rnd, table.labels), drawn_stock(rnd, table.labels)
                value = Fraction(*worth(table, stock, prices)[0])
                trade = [(), 0, (), ()]
                for _ in range(25):
                    cups = tuple(rnd.randrange(table.labels) for _ in range(k))
                    longer = [trade[0] + ((cups, pair(Fraction(rnd.randrange(1, 400), rnd.randrange(1, 4)))),), 0, (), ()]
                    if is_trade(table, stock, tuple(longer)):
                        trade = longer
                        self.assertLessEqual(worth_at_end(table, stock, prices, tuple(trade)), value)

    def test_edges(self):
        for k in SIZES:
            table = least_table(k, 3)
            self.assertEqual(worth(table, [0, 0, 0], [1, 2, 3]), ((0, 1), (), (None,) * 3))
            self.assertEqual(near_trade(table, [0, 0, 0], [1, 2, 3], (1, 10 ** 18)), ((), 0, (), ()))
            self.assertEqual(worth(table, [1000] * 3, [1000] * 3), ((3000000, 1), (), ((1000, 1),) * 3))
            self.assertEqual(worth(table, [1000] * 3, [-1000] * 3)[0], (-3000000, 1))
            self.assertEqual(worth(table, [0, 1, 1000], [1000, 5, -1000])[0], (5005, 1))
            self.assertEqual(worth(table, [0, 1, 1000], [1000, 5, -1000])[2][0], None)
            self.assertEqual(worth(Table(k, 1, [0]), [7], [-3]), ((-21, 1), (), ((-3, 1),)))
            self.assertEqual(worth(first_table(k, 2), [1, 9], [5, 3])[0], (50, 1))

    def test_great_tables(self):
        rnd = generator(4)
        for k in SIZES:
            for _ in range(4):
                table = random_table(rnd, k, most_labels(k))
                stock, prices = drawn_stock(rnd, table.labels), [rnd.randint(-1000, 1000) for _ in range(table.labels)]
                self.assertTrue(plainly_worth(table, stock, prices, *as_fractions(worth(table, stock, prices))))


    def test_fractions(self):
        for k in (3, 4, 5):
            # Only k - 1 cups 0 and then one cup 1 come to 2, nothing else to 0.
            results = [1] * 3 ** k
            results[0], results[1], results[-1] = 0, 2, 2
            table, stock, prices = Table(k, 3, results), [1, 7, 0], [0, 0, 4]
            told = worth(table, stock, prices)
            self.assertTrue(plainly_worth(table, stock, prices, *as_fractions(told)))
            self.assertEqual(Fraction(*told[0]), Fraction(4 * k, k - 1))
            for gap in ((1, 10 ** 18), (1, 2), (22, 7)):
                trade = near_trade(table, stock, prices, gap)
                self.assertIs(is_trade(table, stock, trade), True)
                found = worth_at_end(table, stock, prices, trade)
                self.assertTrue(Fraction(*told[0]) - Fraction(*gap) <= found <= Fraction(*told[0]))


class IsWorthTest(unittest.TestCase):
    def test_each_part_changed(self):
        rnd = generator(5)
        for k in SIZES:
            for _ in range(30):
                table = drawn_table(rnd, k)
                prices, stock = drawn_prices(rnd, table.labels), drawn_stock(rnd, table.labels)
                if any(stock):
                    told = worth(table, stock, prices)
                    for _ in range(6):
                        self.check_changed(rnd, table, stock, prices, as_fractions(told))

    def check_changed(self, rnd, table, stock, prices, told):
        value, flow, limits = told
        kind = rnd.randrange(6)
        goods = goods_of(table, stock)
        if kind == 0:
            value += rnd.choice([1, -1, Fraction(1, 7)])
        elif kind == 1 and flow:
            at = rnd.randrange(len(flow))
            flow[at] = (flow[at][0], flow[at][1] * rnd.choice([2, Fraction(1, 2), Fraction(9, 8)]))
        elif kind == 2 and flow:
            del flow[rnd.randrange(len(flow))]
        elif kind == 3:
            cups = tuple(rnd.choice(goods) for _ in range(table.k))
            flow = sorted(flow + [(cups, Fraction(1, rnd.randrange(1, 5)))])
        elif kind == 4:
            at = rnd.choice(goods)
            limits[at] += rnd.choice([1, -1, Fraction(-1, 3)])
        else:
            at = rnd.randrange(table.labels)
            limits[at] = rnd.choice([None, Fraction(prices[at])])
        shows = plainly_worth(table, stock, prices, value, flow, limits)
        changed = pair(value), tuple((cups, pair(amount)) for cups, amount in flow), tuple(
            None if limit is None else pair(limit) for limit in limits)
        self.assertIs(is_worth(table, stock, prices, changed), shows)

    def test_limits_a_little_too_great_or_small(self):
        # 0 and 1 come to 2, whose limit is at most half of theirs, and at least its price.
        table = Table(2, 3, [0, 2, 1, 1, 1, 1, 1, 1, 2])
        for limit, shows in (((0, 1), True), ((1, 2), True), ((1, 3), True), ((1, 1), False), ((51, 100), False), ((-1, 1), False)):
            value = ((1, 1), (), ((1, 1), (0, 1), limit))
            self.assertIs(is_worth(table, [1, 1, 0], [1, 0, 0], value), shows)

    def test_any_value(self):
        table, stock, prices = least_table(2, 3), [1, 1, 0], [3, 1, 9]
        throw, limits = ((0, 1), (1, 1)), ((3, 1), (3, 1), None)
        good = ((6, 1), (throw,), limits)
        self.assertIs(is_worth(table, stock, prices, good), True)
        self.assertIs(is_worth(table, stock, prices, ((6, 1), (((0, 0), (1, 2)), throw), limits)), True)
        self.assertIs(is_worth(table, stock, prices, ((6, 1), (((0, 1), (1, 2)), ((1, 0), (1, 2))), limits)), True)
        flows = [
            [throw], (list(throw),), (([0, 1], (1, 1)),), (((0, 1), [1, 1]),), (((0, 1), (2, 2)),), (((0, 1), (1, 1), 0),),
            (throw, throw), (throw, ((0, 0), (1, 2))), (((0, 1), (1, 2)), ((0, 1), (1, 2))), (((0, 1), 1),), (None,), None,
            (((0, 1), (0, 1)), throw), (((0, 1), (1, 2)),), (), throw, (((0, True), (1, 1)),), (((0, 1), (True, 1)),),
            (throw, ((2, 2), (1, 2))), (throw, ((0, 3), (1, 2))), deep_value(60), (((0, 1), (1, 4)), ((0, 1), (3, 4))),
            (((0, 1), (3, 4)), ((0, 1), (1, 4))), (((0, 1), (-1, 1)),), (((0,), (1, 1)),), (((0, 1), (1.0, 1)),),
        ]
        for flow in flows:
            self.assertIs(is_worth(table, stock, prices, ((6, 1), flow, limits)), False, flow)
        for row in (
            list(limits), limits[:2], limits + (None,), ((3, 1), (3, 1), (9, 1)), (None, (3, 1), None), ((3, 1), (2, 1), None),
            ((3, 1), (4, 1), None), ([3, 1], (3, 1), None), ((6, 2), (3, 1), None), (3, 3, None), ((3, 1), (3, 1), False),
            ((3, 1), (3, 1), ()), None, deep_value(60), ((3, True), (3, 1), None), ((2, 1), (4, 1), None),
        ):
            self.assertIs(is_worth(table, stock, prices, ((6, 1), (throw,), row)), False, row)
        for value in ((12, 2), [6, 1], 6, (6, True), (5, 1), None, (6,), (6, -1), (6.0, 1)):
            self.assertIs(is_worth(table, stock, prices, (value, (throw,), limits)), False, value)
        for value in ODD + (list(good), good[:2], good + (0,), deep_value(200)):
            self.assertIs(is_worth(table, stock, prices, value), False, value)


class NearTest(unittest.TestCase):
    def test_trades_come_near(self):
        rnd = generator(6)
        for k in SIZES:
            for _ in range(30):
                table = drawn_table(rnd, k)
                prices, stock = drawn_prices(rnd, table.labels), drawn_stock(rnd, table.labels)
                value = Fraction(*worth(table, stock, prices)[0])
                for gap in ((1, 10 ** 18), (1, 3), (10 ** 9, 1), (355, 113)):
                    trade = near_trade(table=table, stock=stock, prices=prices, gap=gap)
                    self.assertIs(is_trade(table, stock, trade), True)
                    found = worth_at_end(table, stock, prices, trade)
                    self.assertTrue(value - Fraction(*gap) <= found <= value)

    def test_goods_that_are_not_there_at_first(self):
        # 2 is made with the help of 1 alone, which stays, but is not in stock.
        for k in SIZES:
            results = []
            for cups in itertools.product(range(3), repeat=k):
                results.append(1 if max(cups) == 0 else 2 if 0 in cups and 1 in cups else cups[0])
            table = Table(k, 3, results)
            told = worth(table, [10, 0, 0], [0, 0, 100])
            self.assertTrue(plainly_worth(table, [10, 0, 0], [0, 0, 100], *as_fractions(told)))
            for gap in ((1, 1), (1, 10 ** 18)):
                trade = near_trade(table, [10, 0, 0], [0, 0, 100], gap)
                self.assertIs(is_trade(table, [10, 0, 0], trade), True)
                found = worth_at_end(table, [10, 0, 0], [0, 0, 100], trade)
                self.assertGreaterEqual(found, Fraction(*told[0]) - Fraction(*gap))


class ErrorTest(unittest.TestCase):
    def test_stocks_go_first(self):
        for k in SIZES:
            table = least_table(k, 3)
            for work, more in ((worth, ()), (is_worth, (None,)), (near_trade, ((1, 2),))):
                for prices in ([1, 2, 3], None, [None]):
                    for value in NO_SEQUENCES + ([], (), [1, 2], [1, 2, 3, 4]):
                        told = error_of(work, table, value, prices, *more)
                        self.assertEqual(told, ("InvalidQuestion", 3), value)
                    for value in ODD + (1.0,):
                        if value != 10 ** 30:
                            told = error_of(work, table, [1, value, None], prices, *more)
                            self.assertEqual(told, ("InvalidQuestion", 1), value)
                for value in NO_SEQUENCES + ([], (), [1, 2], [1, 2, 3, 4]):
                    told = error_of(work, table, [0, 1, 2], value, *more)
                    self.assertEqual(told, ("InvalidPrices", 3), value)
                for value in (None, True, "5", 1.0, (1, 1), [], {}, deep_value(30)):
                    told = error_of(work, table, [0, 1, 2], [0, 1, value], *more)
                    self.assertEqual(told, ("InvalidPrices", 2), value)

    def test_later_changes(self):
        stock, prices = [1, 1, 0], [3, 1, 9]
        told = worth(least_table(2, 3), stock, prices), near_trade(least_table(2, 3), stock, prices, (1, 2))
        stock[0] = prices[0] = 50
        self.assertEqual(told[0][0], (6, 1))
        self.assertIs(is_trade(least_table(2, 3), [1, 1, 0], told[1]), True)


if __name__ == "__main__":
    unittest.main()
