"""Point 61: whether the greatest worth is reached, or only neared."""

import itertools
import unittest
from fractions import Fraction

from mixlabels.bars import Opening
from mixlabels.reach import is_reach, reach
from mixlabels.tables import Table
from mixlabels.trades import is_trade
from mixlabels.worth import worth
from tests.faithful import drawn_faithful
from tests.helpers import (
    NO_SEQUENCES, ODD, SIZES, deep_value, error_of, first_table, generator, least_table, most_labels, random_table,
)
from tests.test_prices import drawn_prices, drawn_table
from tests.test_trades import plain_after
from tests.test_worth import as_fractions, drawn_stock, goods_of, plainly_worth, worth_at_end


def tight_question(rnd, k, most=5):
    """A table, a stock and prices for which many k-tuples are open."""
    labels = rnd.randrange(2, min(most, most_labels(k)) + 1)
    limits = [rnd.choice((0, 0, 1, 1, 2, 3, 4)) for _ in range(labels)]
    results = []
    for cups in itertools.product(range(labels), repeat=k):
        total = sum(limits[cup] for cup in cups)
        tight = [label for label in range(labels) if k * limits[label] == total]
        loose = [label for label in range(labels) if k * limits[label] <= total]
        results.append(rnd.choice(tight if tight and rnd.random() < 0.7 else loose))
    prices = [limit if rnd.random() < 0.5 else limit - rnd.choice((1, 2)) for limit in limits]
    stock = [rnd.choice([0, 0, 1, 2, rnd.randrange(1000)]) for _ in range(labels)]
    return Table(k, labels, results), stock, prices


# Questions whose answer takes several steps of each kind.
RARE = (
    (2, [0, 3, 3, 0, 4, 4, 2, 0, 4, 0, 0, 2, 4, 0, 0, 0, 0, 4, 0, 4, 4, 4, 4, 0, 3], [1, 1, 0, 0, 0], [-1, 2, 1, 1, 0],
     ["never", "stuck"]),
    (2, [0, 0, 1, 2, 1, 0, 1, 0, 4, 0, 1, 0, 1, 2, 4, 4, 2, 0, 2, 4, 0, 1, 1, 1, 2], [0, 429, 0, 1, 0], [0, -1, 0, 1, 1],
     ["never", "scale", "never", "stuck"]),
    (2, [0, 3, 0, 0, 3, 1, 2, 0, 0, 3, 3, 3, 0, 2, 3, 3], [0, 1, 2, 2], [0, 1, 1, -1], ["never", "scale"]),
    (2, [0, 0, 1, 1, 1, 0, 1, 0, 1, 1, 1, 0, 2, 3, 2, 1, 0, 0, 3, 2, 3, 1, 1, 2, 4], [0, 2, 819, 0, 2], [-1, 0, 0, 2, 2],
     ["scale", "never", "stuck"]),
    (2, [0, 0, 0, 1, 0, 0, 1, 3, 4, 4, 0, 3, 2, 1, 4, 1, 1, 3, 3, 1, 4, 0, 1, 1, 4], [444, 0, 1, 1, 0],
     [-1, 0, 3, 2, 0], ["never", "scale", "stuck"]),
)


def plainly_bar(table, stock, prices, limits, bar):
    """Whether tuples of steps are a bar, by the words; the limits are fractions."""
    goods = goods_of(table, stock)
    blends = {cups: table.blend(cups) for cups in itertools.product(goods, repeat=table.k)}
    opened = {cups for cups, label in blends.items() if table.k * limits[label] == sum(limits[cup] for cup in cups)}
    ends = {good for good in goods if limits[good] == prices[good]}
    for at, (word, told) in enumerate(bar):
        some = set(told)
        if word == "scale":
            if any(told[end] < 0 for end in ends) or sum(a * b for a, b in zip(stock, told)) > 0:
                return False
            under = {cups: sum(told[cup] for cup in cups) - table.k * told[blends[cups]] for cups in opened}
            if any(value < 0 for value in under.values()):
                return False
            done = sum(a * b for a, b in zip(stock, told)) < 0
            opened = {cups for cups in opened if under[cups] == 0}
            ends = {end for end in ends if told[end] == 0}
        elif word == "never":
            if any(label not in goods or stock[label] for label in told):
                return False
            if any(blends[cups] in some and not some & set(cups) for cups in opened):
                return False
            done = False
            opened = {cups for cups in opened if not some & set(cups)}
            ends -= some
        else:
            if any(label not in goods or label in ends for label in told):
                return False
            if any(some & set(cups) and blends[cups] not in some for cups in opened):
                return False
            done = any(stock[label] for label in told)
            opened = {cups for cups in opened if blends[cups] not in some}
        if done:
            return at == len(bar) - 1
    return False


def plainly_reached(table, stock, prices, value, trade):
    if trade[1] < 200:
        return plain_after(table, stock, trade) is not None and worth_at_end(table, stock, prices, trade) == value
    return is_trade(table, stock, trade) and worth_at_end(table, stock, prices, trade) == value


def plainly_reach(table, stock, prices, told):
    word, triple, rest = told
    value, flow, limits = as_fractions(triple)
    if not plainly_worth(table, stock, prices, value, flow, limits):
        return False
    if word == "reached":
        return plainly_reached(table, stock, prices, value, rest)
    return plainly_bar(table, stock, prices, limits, rest)


class ReachTest(unittest.TestCase):
    def check(self, table, stock, prices):
        told = reach(table=table, stock=stock, prices=prices)
        self.assertIsInstance(told, tuple)
        self.assertIn(told[0], ("reached", "neared"))
        self.assertTrue(plainly_reach(table, stock, prices, told), (table.results, stock, prices))
        self.assertIs(is_reach(table=table, stock=tuple(stock), prices=tuple(prices), value=told), True)
        return told

    def test_any_tables(self):
        rnd = generator(1)
        for k in SIZES:
            for _ in range(60):
                table = drawn_table(rnd, k)
                self.check(table, drawn_stock(rnd, table.labels), drawn_prices(rnd, table.labels))

    def test_faithful_tables(self):
        rnd = generator(2)
        for k in SIZES:
            for _ in range(15):
                table = drawn_faithful(rnd, k)
                prices = [rnd.randrange(2) for _ in range(table.labels)]
                self.check(table, drawn_stock(rnd, table.labels), prices)

    def test_many_open_tuples(self):
        rnd = generator(3)
        words = {}
        for _ in range(1500):
            table, stock, prices = tight_question(rnd, rnd.choice((2, 2, 2, 3)))
            told = self.check(table, stock, prices)
            words[told[0]] = words.get(told[0], 0) + 1
        self.assertGreater(words["neared"], 10)
        for k in SIZES:
            for _ in range(20):
                self.check(*tight_question(rnd, k, 4))

    def test_steps_of_each_kind(self):
        for k, results, stock, prices, words in RARE:
            labels = len(stock)
            told = self.check(Table(k, labels, results), stock, prices)
            self.assertEqual(told[0], "neared")
            self.assertEqual({word for word, _ in told[2]}, set(words))

    def test_catalysts(self):
        # Label 1 alone turns 0 to 2 and stays, but some of it has to be made of 0 first: that is lost.
        for k in SIZES:
            results = []
            for cups in itertools.product(range(3), repeat=k):
                results.append(1 if max(cups) == 0 else 2 if 0 in cups and 1 in cups else cups[0])
            table = Table(k, 3, results)
            self.check(table, [10, 0, 0], [0, 0, 100])
            # With each blend of 0 and 1 coming to 1, what is 0 never becomes 1 altogether.
            greatest = Table(k, 2, [0] + [1] * (2 ** k - 1))
            for prices in ([0, 1], [1, 5]):
                told = self.check(greatest, [3, 1], prices)
                self.assertEqual(told[0], "reached")
                self.assertEqual(self.check(greatest, [3, 0], prices)[0], "reached")

    def test_edges(self):
        for k in SIZES:
            table = least_table(k, 3)
            self.assertEqual(self.check(table, [0, 0, 0], [1, 2, 3]), ("reached", ((0, 1), (), (None,) * 3), ((), 0, (), ())))
            self.check(table, [1000] * 3, [1000] * 3)
            self.check(table, [1000] * 3, [-1000, 1000, 0])
            self.check(table, [1, 1, 1], [5, 3, 1])
            self.check(Table(k, 1, [0]), [7], [-3])
            self.check(first_table(k, 2), [1, 9], [5, 3])
        rnd = generator(4)
        for k in SIZES:
            for _ in range(3):
                table = random_table(rnd, k, most_labels(k))
                self.check(table, drawn_stock(rnd, table.labels), drawn_prices(rnd, table.labels))
                self.check(table, [1000] * table.labels, [rnd.randrange(2) for _ in range(table.labels)])


class IsReachTest(unittest.TestCase):
    def test_each_part_changed(self):
        rnd = generator(5)
        kinds = {}
        for _ in range(700):
            if rnd.random() < 0.4:
                k, results, stock, prices, _ = rnd.choice(RARE)
                table = Table(k, len(stock), results)
            else:
                table, stock, prices = tight_question(rnd, rnd.choice((2, 2, 3)), 4)
            told = reach(table, stock, prices)
            for _ in range(4):
                changed = changed_reach(rnd, table, told)
                shows = plainly_reach(table, stock, prices, changed)
                kinds[told[0], shows] = kinds.get((told[0], shows), 0) + 1
                self.assertIs(is_reach(table, stock, prices, changed), shows, (table.results, stock, prices, changed))
        for word in ("reached", "neared"):
            for shows in (True, False):
                self.assertGreater(kinds[word, shows], 50)

    def test_any_value(self):
        table, stock, prices = least_table(2, 3), [1, 1, 0], [3, 1, 9]
        good = reach(table, stock, prices)
        word, triple, trade = good
        self.assertEqual(word, "reached")
        values = ODD + (
            list(good), good[:2], good + (0,), ("neared", triple, trade), ("reach", triple, trade), (None, triple, trade),
            (b"reached", triple, trade), (word, list(triple), trade), (word, triple, list(trade)), (word, triple, trade[:3]),
            (word, triple, ((), 0, (), ())), (word, triple, None), (word, triple, deep_value(60)), (word, None, trade),
            (word, ((7, 1),) + triple[1:], trade), (word, trade, triple), deep_value(100), ("neared", triple, ()),
            ("neared", triple, None), ("neared", triple, [("stuck", (0, 1))]),
        )
        for value in values:
            self.assertIs(is_reach(table, stock, prices, value), False, value)

    def test_any_step(self):
        k, results, stock, prices, _ = RARE[1]
        table = Table(k, 5, results)
        word, triple, bar = reach(table, stock, prices)
        self.assertEqual([step[0] for step in bar], ["never", "scale", "never", "stuck"])
        self.assertIs(is_reach(table, stock, prices, (word, triple, bar)), True)
        never, scale, _, stuck = bar
        wrong = (
            ("never", list(never[1])), list(never), never + (0,), never[:1], ("never",), ("Never", never[1]), (None, never[1]),
            ("never", (True,)), ("never", (0, 0)), ("never", (4, 2, 0)), ("never", (5,)), ("never", (-1,)), ("never", 0),
            ("never", None), ("never", ((0,),)), ("never", ("0",)), ("never", (1,)), ("stuck", [0]),
            ("scale", list(scale[1])), ("scale", scale[1][:4]), ("scale", scale[1] + (0,)), ("scale", (0, -1, 0, 429, None)),
            ("scale", (0, -1, 0, 429, False)), ("scale", (0, 1, 0, 0, 0)), ("scale", (0, -1, 0, 429, (0, 1))),
            ("scale", ()), ("scale", None), None, (), "never", ("stuck", (4, 3, 2, 1, 0)), ("stuck", None), deep_value(40),
        )
        for step in wrong:
            for at in range(4):
                changed = bar[:at] + (step,) + bar[at + 1:]
                self.assertIs(is_reach(table, stock, prices, (word, triple, changed)), False, (step, at))
        for steps in (
            list(bar), bar[:3], bar + (stuck,), (stuck,), (), bar[1:], bar[:2] + (stuck,), (None,) + bar,
            bar[:1] + (("scale", (0, -2, 0, 429, 0)),) + bar[2:],
        ):
            self.assertIs(is_reach(table, stock, prices, (word, triple, steps)), False, steps)
        same = (
            bar[:1] * 3 + bar[1:], (("never", ()),) + bar, bar[:1] + (("stuck", ()), ("scale", (0,) * 5)) + bar[1:],
            bar[:1] + (("scale", (0, -2, 0, 858, 0)),) + bar[2:], bar[:1] + (("scale", (0, -10 ** 30, 0, 429 * 10 ** 30, 0)),) + bar[2:],
        )
        for steps in same:
            self.assertIs(is_reach(table, stock, prices, (word, triple, steps)), True, steps)
        for other in ("reached", "near", "nearedx", "", None, True, b"neared", ("neared",), deep_value(40)):
            self.assertIs(is_reach(table, stock, prices, (other, triple, bar)), False, other)

    def test_labels_that_are_no_goods(self):
        # A label more, which nothing is blended to and nobody has: it is no good, and its numbers do not matter.
        for k, results, stock, prices, words in RARE:
            labels = len(stock)
            more = [results[a * labels + b] if a < labels and b < labels else 0 for a in range(labels + 1) for b in range(labels + 1)]
            table, stock, prices = Table(k, labels + 1, more), stock + [0], prices + [1000]
            word, triple, bar = reach(table, stock, prices)
            self.assertEqual([step[0] for step in bar], words)
            for at in range(len(bar)):
                for step in (("never", (labels,)), ("stuck", (labels,))):
                    self.assertIs(is_reach(table, stock, prices, (word, triple, bar[:at] + (step,) + bar[at:])), False)
                name, told = bar[at]
                if name == "scale":
                    for number in (77, -3):
                        step = (name, told[:labels] + (number,))
                        self.assertIs(is_reach(table, stock, prices, (word, triple, bar[:at] + (step,) + bar[at + 1:])), True)

    def test_steps_alone(self):
        for k in SIZES:
            table = Table(k, 3, [1 if 1 in cups else min(cups) for cups in itertools.product(range(3), repeat=k)])
            # 0 is in stock and an end; 1 is neither, 2 is no good.
            opening = Opening(table, ((1, 1), (0, 1), (0, 1)), (0, -1, 5), ((0, 1), None, None))
            self.assertEqual((opening.goods, opening.ends), ((0,), [0]))
            for numbers, fits in (((0, 0, 0), True), ((0, 9, -9), True), ((1, 0, 0), False), ((-1, 0, 0), False), ((2, 0, 0), False)):
                self.assertIs(opening.fits(("scale", numbers)), fits)
            for told, fits in (((), True), ((0,), False), ((1,), False), ((2,), False), ((True,), False), ((False,), False)):
                self.assertIs(opening.fits(("never", told)), fits)
                self.assertIs(opening.fits(("stuck", told)), fits)
            # Now 1 is in stock, too, and no end, and each blend with it comes to it.
            opening = Opening(table, ((1, 1), (2, 1), (0, 1)), (0, -1, 5), ((0, 1), (0, 1), None))
            self.assertEqual((opening.goods, opening.ends), ((0, 1), [0]))
            self.assertIs(opening.fits(("stuck", (1,))), True)
            self.assertIs(opening.fits(("stuck", (True,))), False)
            self.assertIs(opening.fits(("scale", (1, 0, 0))), False)
            self.assertIs(opening.fits(("scale", (0, -1, 0))), True)
            self.assertIs(opening.fits(("scale", (1, -1, 0))), True)


def changed_reach(rnd, table, told):
    word, triple, rest = told
    kind = rnd.randrange(8)
    if kind == 0:
        value, flow, limits = triple
        return word, ((value[0] + value[1], value[1]), flow, limits), rest
    if word == "reached":
        return word, triple, changed_trade(rnd, table, rest)
    rest = list(rest)
    at = rnd.randrange(len(rest))
    name, row = rest[at]
    if kind == 1:
        del rest[at]
    elif kind == 2:
        rest.insert(rnd.randrange(len(rest) + 1), rest[at])
    elif kind == 3:
        rnd.shuffle(rest)
    elif name == "scale":
        row = list(row)
        place = rnd.randrange(len(row))
        row[place] += rnd.choice((-2, -1, 1, 2))
        if kind == 4:
            row = [3 * number for number in rest[at][1]]
        rest[at] = (name, tuple(row))
    elif kind == 4:
        rest[at] = ("stuck" if name == "never" else "never", row)
    else:
        other = rnd.randrange(table.labels)
        rest[at] = (name, tuple(sorted(set(row) ^ {other})))
    return word, triple, tuple(rest)


def changed_trade(rnd, table, trade):
    parts = list(trade)
    kind = rnd.randrange(6)
    at = rnd.choice((0, 2, 3))
    if kind == 0:
        parts[1] = max(0, parts[1] + rnd.choice((-1, 1)))
    elif kind == 1 and parts[at]:
        place = rnd.randrange(len(parts[at]))
        parts[at] = parts[at][:place] + parts[at][place + 1:]
    elif kind == 2 and parts[at]:
        place = rnd.randrange(len(parts[at]))
        cups, (top, bottom) = parts[at][place]
        many = Fraction(top, bottom) * rnd.choice((2, Fraction(1, 2)))
        parts[at] = parts[at][:place] + ((cups, (many.numerator, many.denominator)),) + parts[at][place + 1:]
    elif kind == 3 and parts[at]:
        place = rnd.randrange(len(parts[at]))
        cups = tuple(rnd.randrange(table.labels) for _ in range(table.k))
        parts[at] = parts[at][:place] + ((cups, parts[at][place][1]),) + parts[at][place + 1:]
    elif kind == 4:
        parts[at] = parts[at][::-1]
    else:
        label = rnd.randrange(table.labels)
        if table.blend((label,) * table.k) == label:
            parts[at] = parts[at] + (((label,) * table.k, (1, 10 ** 6)),)
    return tuple(parts)


class ErrorTest(unittest.TestCase):
    def test_stocks_go_first(self):
        for k in SIZES:
            table = least_table(k, 3)
            for work, more in ((reach, ()), (is_reach, (None,))):
                for prices in ([1, 2, 3], None, [None]):
                    for value in NO_SEQUENCES + ([], (), [1, 2], [1, 2, 3, 4]):
                        self.assertEqual(error_of(work, table, value, prices, *more), ("InvalidQuestion", 3), value)
                    for value in ODD:
                        if value != 10 ** 30:
                            told = error_of(work, table, [1, value, None], prices, *more)
                            self.assertEqual(told, ("InvalidQuestion", 1), value)
                for value in NO_SEQUENCES + ([], (), [1, 2], [1, 2, 3, 4]):
                    self.assertEqual(error_of(work, table, [0, 1, 2], value, *more), ("InvalidPrices", 3), value)
                for value in (None, True, "5", 1.0, (1, 1), [], {}, deep_value(30)):
                    self.assertEqual(error_of(work, table, [0, 1, 2], [0, value, None], *more), ("InvalidPrices", 1), value)

    def test_later_changes(self):
        stock, prices = [1, 1, 0], [3, 1, 9]
        told = reach(least_table(2, 3), stock, prices)
        stock[0] = prices[0] = 50
        self.assertIs(is_reach(least_table(2, 3), [1, 1, 0], [3, 1, 9], told), True)
        self.assertEqual(told[1], worth(least_table(2, 3), [1, 1, 0], [3, 1, 9]))


if __name__ == "__main__":
    unittest.main()
