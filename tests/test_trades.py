"""Point 59: stocks and trades."""

import unittest
from fractions import Fraction

from mixlabels.tables import Table
from mixlabels.trades import after, is_trade
from tests.helpers import (
    NO_SEQUENCES, ODD, SIZES, deep_value, error_of, first_table, generator, least_table, random_table,
)
from tests.test_prices import drawn_table


def thrown(table, amounts, throw):
    """The amounts behind a throw, or None if it cannot be done."""
    cups, amount = throw
    found = list(amounts)
    for cup in cups:
        found[cup] -= Fraction(*amount)
    if min(found) < 0:
        return None
    found[table.blend(cups)] += table.k * Fraction(*amount)
    return found


def plain_after(table, stock, trade):
    """The amounts behind a trade that is repeated a few times, or None."""
    first, times, again, last = trade
    amounts = [Fraction(many) for many in stock]
    for throw in first + again * times + last:
        amounts = thrown(table, amounts, throw)
        if amounts is None:
            return None
    return tuple((amount.numerator, amount.denominator) for amount in amounts)


def drawn_throws(rnd, table, most):
    found = []
    for _ in range(rnd.randrange(most + 1)):
        amount = Fraction(rnd.randrange(1, 9), rnd.randrange(1, 9))
        cups = tuple(rnd.randrange(table.labels) for _ in range(table.k))
        found.append((cups, (amount.numerator, amount.denominator)))
    return tuple(found)


class TradeTest(unittest.TestCase):
    def test_against_throws_one_by_one(self):
        rnd = generator(1)
        for k in SIZES:
            kinds = set()
            for _ in range(250):
                table = random_table(rnd, k, rnd.randrange(1, 4))
                stock = [rnd.choice([0, 1, 5, 20, 1000]) for _ in range(table.labels)]
                trade = (drawn_throws(rnd, table, 2), rnd.randrange(6), drawn_throws(rnd, table, 3), drawn_throws(rnd, table, 2))
                wanted = plain_after(table, stock, trade)
                kinds.add(wanted is None)
                self.assertIs(is_trade(table=table, stock=stock, value=trade), wanted is not None)
                if wanted is not None:
                    self.assertEqual(after(table=table, stock=tuple(stock), trade=trade), wanted)
            self.assertEqual(kinds, {True, False})

    def test_it_runs_out_in_the_middle(self):
        for k in SIZES:
            table = first_table(k, 2)
            throw = (((0,) + (1,) * (k - 1), (1, 1)),)
            for many in range(12):
                stock = [1, many]
                for times in range(10):
                    wanted = times * (k - 1) <= many
                    self.assertIs(is_trade(table, stock, ((), times, throw, ())), wanted)

    def test_very_often(self):
        for k in SIZES:
            table, many = first_table(k, 2), 10 ** 300
            small = (((0,) + (1,) * (k - 1), (1, many * (k - 1))),)
            self.assertIs(is_trade(table, [1, 7], ((), 7 * many, small, ())), True)
            self.assertIs(is_trade(table, [1, 7], ((), 7 * many + 1, small, ())), False)
            self.assertIs(is_trade(table, [0, 7], ((), many, small, ())), False)
            self.assertEqual(after(table, [1, 7], ((), 7 * many, small, ())), ((8, 1), (0, 1)))
            told = after(table, [1, 7], ((), 5 * many + 1, small, ()))
            self.assertEqual(told, ((6 * many + 1, many), (2 * many - 1, many)))
            self.assertIs(is_trade(table, [1, 7], ((), 5 * many, small, small)), True)
            self.assertIs(is_trade(table, [1, 7], ((), 7 * many, small, small)), False)
            self.assertIs(is_trade(table, [1, 7], ((), many, (), ())), True)
            same = (((0,) * k, (1, k)),)
            self.assertIs(is_trade(table, [1, 0], (same, many, same, same)), True)
            self.assertIs(is_trade(table, [0, 5], ((), 0, same, ())), True)
            self.assertIs(is_trade(table, [0, 5], ((), 1, same, ())), False)
            self.assertIs(is_trade(table, [0, 5], (same, 0, (), ())), False)
            self.assertIs(is_trade(table, [0, 5], ((), 0, (), same)), False)

    def test_what_is_taken_must_be_there_first(self):
        for k in SIZES:
            table = Table(k, 1, [0])
            self.assertIs(is_trade(table, [k], ((((0,) * k, (1, 1)),), 0, (), ())), True)
            self.assertIs(is_trade(table, [k - 1], ((((0,) * k, (1, 1)),), 0, (), ())), False)
            self.assertIs(is_trade(table, [1], ((((0,) * k, (1, k)),), 0, (), ())), True)
            self.assertIs(is_trade(table, [1], ((((0,) * k, (2, 2 * k - 1)),), 0, (), ())), False)
            table = least_table(k, 3)
            one, two = ((0,) + (1,) * (k - 1), (1, 1)), ((0,) * (k - 1) + (2,), (1, 1))
            self.assertIs(is_trade(table, [1, k - 1, 1], ((one, two), 0, (), ())), True)
            self.assertIs(is_trade(table, [1, k - 1, 1], ((two, one), 0, (), ())), k == 2)

    def test_nothing_to_do(self):
        for k in SIZES:
            for stock in ([0] * 3, [1000] * 3, [0, 1000, 0]):
                self.assertIs(is_trade(least_table(k, 3), stock, ((), 0, (), ())), True)
                wanted = tuple((many, 1) for many in stock)
                self.assertEqual(after(least_table(k, 3), stock, ((), 0, (), ())), wanted)
        rnd = generator(2)
        for k in SIZES:
            table = drawn_table(rnd, k)
            throws = drawn_throws(rnd, table, 4)
            stock = [1000] * table.labels
            self.assertIs(is_trade(table, stock, (throws, 3, throws, throws)), True)
            total = sum(Fraction(*amount) for amount in after(table, stock, (throws, 3, throws, throws)))
            self.assertEqual(total, 1000 * table.labels)

    def test_any_value(self):
        table, stock = least_table(2, 2), [5, 5]
        throw = ((0, 1), (1, 2))
        self.assertIs(is_trade(table, stock, ((throw,), 2, (throw,), (throw,))), True)
        wrong_throws = [
            [throw], (list(throw),), (([0, 1], (1, 2)),), (((0, 1), [1, 2]),), (((0, 1), (2, 4)),), (((0, 1), (0, 1)),),
            (((0, 1), (-1, 2)),), (((0, 1), (1, -2)),), (((0, 1), (1, 0)),), (((0, 1), 1),), (((0, 1), (True, 2)),),
            (((0, 1), (1, True)),), (((0, 1), (1.0, 2)),), (((0, 2), (1, 2)),), (((0, True), (1, 2)),), (((0,), (1, 2)),),
            (((0, 1, 0), (1, 2)),), (throw, None), throw, (((0, 1),),), (throw + (0,),), None, 0, "", {}, deep_value(80),
            (((0, -1), (1, 2)),), (("01", (1, 2)),), (throw, ()), (((0, 1), (1, 2, 1)),),
        ]
        for throws in wrong_throws:
            for times in (0, 1):
                self.assertIs(is_trade(table, stock, (throws, times, (), ())), False, throws)
                self.assertIs(is_trade(table, stock, ((), times, throws, ())), False, throws)
                self.assertIs(is_trade(table, stock, ((), times, (), throws)), False, throws)
        for times in (None, True, False, -1, "1", 1.0, (1,), [1], {}):
            self.assertIs(is_trade(table, stock, ((), times, (), ())), False, times)
        good = ((throw,), 1, (), ())
        for value in ODD + (list(good), good[:3], good + ((),), deep_value(200), (good,)):
            self.assertIs(is_trade(table, stock, value), False, value)

    def test_stocks(self):
        for k in SIZES:
            table = least_table(k, 3)
            for work, more in ((is_trade, None), (after, ((), 0, (), ()))):
                for value in NO_SEQUENCES + ([], (), [1, 2], [1, 2, 3, 4]):
                    self.assertEqual(error_of(work, table, value, more), ("InvalidQuestion", 3), value)
                for value in ODD + (1.0, (1, 1)):
                    if value != 10 ** 30:
                        self.assertEqual(error_of(work, table, [1, value, None], more), ("InvalidQuestion", 1), value)
                        self.assertEqual(error_of(work, table, [0, 0, 0, value], more), ("InvalidQuestion", 3), value)

    def test_later_changes(self):
        stock = [1, 1]
        told = after(least_table(2, 2), stock, ((((0, 1), (1, 1)),), 0, (), ()))
        stock[0] = 9
        self.assertEqual(told, ((2, 1), (0, 1)))


if __name__ == "__main__":
    unittest.main()
