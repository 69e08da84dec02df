"""Point 79: tables that wear evenly."""

import itertools
import unittest

from mixlabels.faults import fault
from mixlabels.leaves import leaves
from mixlabels.recipes import ingredient_row
from mixlabels.tables import Table
from mixlabels.tasting import label_of
from mixlabels.wear import is_worn_fault, leaves_apart, shift_table, worn_fault
from tests.faithful import cyclic, drawn_faithful, faithful_tables
from tests.helpers import (
    ODD, SIZES, calm_table, deep_value, error_of, first_table, generator, grown_recipe, least_table, most_labels, random_recipe,
    random_table,
)


def exchange_changes(table, one, other, rest):
    before = table.blend((table.blend(one), table.blend(other)) + rest)
    behind = table.blend((table.blend(other[:1] + one[1:]), table.blend(one[:1] + other[1:])) + rest)
    return before != behind


def plain_order(table):
    for cups in itertools.product(range(table.labels), repeat=table.k):
        for i in range(table.k - 1):
            if table.blend(cups) != table.blend(cups[:i] + (cups[i + 1], cups[i]) + cups[i + 2:]):
                return "order", cups, i
    return None


def wears_evenly(table):
    """By all exchanges of two cups; for tables in which the order of cups does not matter."""
    k, labels = table.k, range(table.labels)
    lots = list(itertools.combinations_with_replacement(labels, k - 1))
    for a, b in itertools.combinations(labels, 2):
        for s, t in itertools.product(lots, repeat=2):
            for rest in itertools.combinations_with_replacement(labels, k - 2):
                if exchange_changes(table, (a,) + s, (b,) + t, rest):
                    return False
    return True


def same_leaves(rnd, recipe):
    """A recipe with the same leaves: two parts at one depth exchanged, again and again."""
    rows = [list(leaves(recipe))]
    from mixlabels.leaves import recipe_with
    rnd.shuffle(rows[0])
    k = len(recipe) if isinstance(recipe, tuple) else 2
    return recipe_with(k, rows[0])


def drawn_shift(rnd, k):
    """The sums and the shift of a table of a cyclic group, with labels called anew."""
    labels = rnd.randrange(1, most_labels(k) + 1)
    factor = rnd.randrange(labels)
    names = rnd.sample(range(labels), labels)
    at = [names.index(label) for label in range(labels)]
    sums = [[names[(at[a] + at[b]) % labels] for b in range(labels)] for a in range(labels)]
    return sums, [names[at[a] * factor % labels] for a in range(labels)]


def drawn_table(rnd, k):
    kind = rnd.randrange(6)
    labels = rnd.randrange(1, most_labels(k) + 1)
    if kind == 0:
        return drawn_faithful(rnd, k)
    if kind == 1:
        return calm_table(rnd, k, labels)
    if kind == 2:
        return calm_table(rnd, k, labels, False)
    if kind == 3:
        return random_table(rnd, k, labels)
    table = shift_table(k, *drawn_shift(rnd, k))
    if kind == 4:
        return table
    results = list(table.results)
    cups = [rnd.randrange(table.labels) for _ in range(k)]
    new = rnd.randrange(table.labels)
    for row in itertools.permutations(cups):
        at = 0
        for cup in row:
            at = at * table.labels + cup
        results[at] = new
    return Table(k, table.labels, results)


def sums_error(sums, shift):
    labels = range(len(sums))
    if any(sums[a][b] != sums[b][a] for a in labels for b in labels):
        return "Refused", 0
    if any(sums[sums[a][b]][c] != sums[a][sums[b][c]] for a in labels for b in labels for c in labels):
        return "Refused", 0
    if any(shift[sums[a][b]] != sums[shift[a]][shift[b]] for a in labels for b in labels):
        return "Refused", 1
    return None


class WornTest(unittest.TestCase):
    def test_drawn_tables(self):
        rnd = generator(1)
        for k in SIZES:
            kinds = set()
            for _ in range(60):
                table = drawn_table(rnd, k)
                found = worn_fault(table=table)
                kinds.add(found and found[0])
                order = plain_order(table)
                if order is not None:
                    self.assertEqual(found, order)
                elif found is None:
                    if table.labels < 5:
                        self.assertTrue(wears_evenly(table))
                else:
                    word, one, other, rest = found
                    self.assertEqual((word, len(one), len(other), len(rest)), ("exchange", k, k, k - 2))
                    self.assertTrue(exchange_changes(table, one, other, rest))
                if found is not None:
                    self.assertIs(is_worn_fault(table=table, value=found), True)
            self.assertEqual(kinds, {None, "order", "exchange"})

    def test_recipes_with_the_same_leaves(self):
        rnd = generator(2)
        for k in SIZES:
            even = 0
            for _ in range(80):
                table = drawn_table(rnd, k)
                naming = [rnd.randrange(table.labels) for _ in range(3)]
                if worn_fault(table) is None:
                    even += 1
                    for _ in range(3):
                        one = random_recipe(rnd, k, 3, 4, 0.8)
                        if isinstance(one, tuple):
                            other = same_leaves(rnd, one)
                            self.assertEqual(leaves(one), leaves(other))
                            self.assertEqual(label_of(table, naming, one), label_of(table, naming, other))
            self.assertGreater(even, 10)

    def test_facts(self):
        rnd = generator(3)
        for k in SIZES:
            for _ in range(60):
                table = drawn_table(rnd, k)
                same = all(table.blend((label,) * k) == label for label in range(table.labels))
                self.assertEqual(fault(table) is None, same and worn_fault(table) is None)
            for table in faithful_tables(k):
                self.assertIsNone(worn_fault(table))
        for results in itertools.product(range(2), repeat=4):
            table = Table(2, 2, results)
            grid = all(table.blend([table.blend(row) for row in rows]) == table.blend([table.blend(row) for row in zip(*rows)])
                       for rows in itertools.product(list(itertools.product(range(2), repeat=2)), repeat=2))
            self.assertEqual(worn_fault(table) is None, grid and table.blend((0, 1)) == table.blend((1, 0)))

    def test_order_and_grid_are_not_enough(self):
        results = []
        for cups in itertools.product(range(3), repeat=3):
            results.append(2 if sorted(cups) in ([1, 1, 1], [1, 2, 2]) else 0)
        table = Table(3, 3, results)
        self.assertEqual(worn_fault(table)[0], "exchange")
        rows = list(itertools.product(range(3), repeat=3))
        grids = itertools.product(rows, repeat=3)
        self.assertTrue(all(table.blend([table.blend(row) for row in grid]) == table.blend([table.blend(row) for row in zip(*grid)])
                            for grid in grids))

    def test_great_tables(self):
        for k in SIZES:
            self.assertIsNone(worn_fault(least_table(k, most_labels(k))))
            self.assertEqual(worn_fault(first_table(k, 2)), plain_order(first_table(k, 2)))

    def test_any_exchange(self):
        rnd = generator(9)
        for k in SIZES:
            for _ in range(200):
                table = random_table(rnd, k, rnd.randrange(2, 4))
                one, other = (tuple(rnd.randrange(table.labels) for _ in range(k)) for _ in range(2))
                rest = tuple(rnd.randrange(table.labels) for _ in range(k - 2))
                shows = exchange_changes(table, one, other, rest)
                self.assertIs(is_worn_fault(table, ("exchange", one, other, rest)), shows)

    def test_any_fault(self):
        rnd = generator(4)
        for k in SIZES:
            table = Table(k, 3, [min(2, len(set(cups))) if 0 in cups else cups[0] for cups in itertools.product(range(3), repeat=k)])
            shown = {True: 0, False: 0}
            for _ in range(300):
                one, other = (tuple(rnd.randrange(3) for _ in range(k)) for _ in range(2))
                rest = tuple(rnd.randrange(3) for _ in range(k - 2))
                shows = exchange_changes(table, one, other, rest)
                shown[shows] += 1
                self.assertIs(is_worn_fault(table, ("exchange", one, other, rest)), shows)
                if shows:
                    good = ("exchange", one, other, rest)
            self.assertGreater(min(shown.values()), 0)
            _, one, other, rest = good
            for value in ODD + (
                list(good), good[:3], good + (0,), ("exchange", list(one), other, rest), ("exchange", one, list(other), rest),
                ("exchange", one, other, list(rest)), ("exchange", one[1:], other, rest), ("exchange", one, other + (0,), rest),
                ("exchange", one, other, rest + (0,)), ("exchang", one, other, rest), (None, one, other, rest), ("exchange", None, other, rest),
                ("exchange", one, other, None), ("exchange", (3,) + one[1:], other, rest), ("exchange", one, (True,) + other[1:], rest),
                ("exchange", one, one, rest), ("order", one, other, rest), ("same", 0), ("grid", (one, other)), ("order", one, k - 1),
                ("order", one, -1), ("order", one, True), ("order", one), ("order", (0,) * k, 0), ("order", None, 0), deep_value(50),
                ("exchange", one, other, (None,) * (k - 2)) if k > 2 else None, ("exchange",), ("order", [0, 1] * k, 0),
                ("exchange", one, other, (3,) * (k - 2)) if k > 2 else None, ("exchange", one, other),
            ):
                self.assertIs(is_worn_fault(table, value), False, value)
            for cups in itertools.product(range(3), repeat=k):
                for i in range(k - 1):
                    changed = cups[:i] + (cups[i + 1], cups[i]) + cups[i + 2:]
                    self.assertIs(is_worn_fault(table, ("order", cups, i)), table.blend(cups) != table.blend(changed))
            # Whatever shows a fault has to bear its name.
            broken = first_table(k, 2)
            cups = (0,) + (1,) * (k - 1)
            self.assertIs(is_worn_fault(broken, ("order", cups, 0)), True)
            for word in ("exchange", "same", "grid", "orde", "Order", "", None, b"order", 0, ("order",), True):
                self.assertIs(is_worn_fault(broken, (word, cups, 0)), False, word)
                if word != "exchange":
                    self.assertIs(is_worn_fault(table, (word, one, other, rest)), False, word)


class ShiftTest(unittest.TestCase):
    def test_tables(self):
        rnd = generator(5)
        for k in SIZES:
            for _ in range(20):
                sums, shift = drawn_shift(rnd, k)
                table = shift_table(k=k, sums=sums, shift=tuple(shift))
                self.assertEqual((table.k, table.labels), (k, len(sums)))
                for cups in itertools.product(range(len(sums)), repeat=k):
                    total = cups[0]
                    for cup in cups[1:]:
                        total = sums[total][cup]
                    self.assertEqual(table.blend(cups), shift[total])
                self.assertIsNone(worn_fault(table))
            # Joins are sums, too, and need no zero.
            joins = [[max(a, b) for b in range(3)] for a in range(3)]
            table = shift_table(k, tuple(tuple(row) for row in joins), [0, 1, 1])
            self.assertIsNone(worn_fault(table))
            self.assertEqual(table.blend([2] * k), 1)

    def test_errors(self):
        for k in SIZES:
            most = most_labels(k)
            self.assertIsNone(error_of(shift_table, k, cyclic(most), [0] * most))
            self.assertEqual(error_of(shift_table, k, cyclic(most + 1), [0] * (most + 1)), ("InvalidTable", 0))
            self.assertEqual(error_of(shift_table, k, [], []), ("InvalidTable", 0))
            self.assertEqual(error_of(shift_table, k, [[0, 0], [1, 1]], [0, 1]), ("Refused", 0))
            # The order does not matter, but the grouping does.
            self.assertEqual(error_of(shift_table, k, [[1, 0], [0, 0]], [0, 1]), ("Refused", 0))
            self.assertEqual(error_of(shift_table, k, [[1, 0], [0, 0]], [1, 0]), ("Refused", 0))
            self.assertEqual(error_of(shift_table, k, cyclic(2), [1, 0]), ("Refused", 1))
            self.assertEqual(error_of(shift_table, k, cyclic(3), [0, 2, 2]), ("Refused", 1))
            self.assertEqual(error_of(shift_table, k, [[0, 0], [0, 1]], [1, 0]), ("Refused", 1))
            self.assertIsNone(error_of(shift_table, k, cyclic(3), [0, 2, 1]))
            # Too many labels go ahead of sums that do not fit.
            wrong = [[0] * (most + 1) for _ in range(most)] + [[1] * (most + 1)]
            self.assertEqual(error_of(shift_table, k, wrong, [0] * (most + 1)), ("InvalidTable", 0))

    def test_any_sums(self):
        rnd = generator(10)
        outcomes = {None: 0, ("Refused", 0): 0, ("Refused", 1): 0}
        for _ in range(3000):
            k, n = rnd.choice(SIZES), rnd.choice((2, 3, 3))
            sums, shift = [list(row) for row in rnd.choice((cyclic(n), [[0] * n] * n, [[max(a, b) for a in range(n)] for b in range(n)]))], [0] * n
            for _ in range(rnd.randrange(2)):
                a, b, c = (rnd.randrange(n) for _ in range(3))
                sums[a][b] = c
                if rnd.random() < 0.7:
                    sums[b][a] = c
            for _ in range(rnd.randrange(3)):
                shift[rnd.randrange(n)] = rnd.randrange(n)
            found = error_of(shift_table, k, sums, shift)
            self.assertEqual(found, sums_error(sums, shift), (sums, shift))
            outcomes[found] += 1
        self.assertGreater(min(outcomes.values()), 100)

    def test_facts_told_by_leaves(self):
        rnd = generator(6)
        for k in SIZES:
            tables = 0
            for _ in range(60):
                one, other = random_recipe(rnd, k, 3, 3, 0.8), random_recipe(rnd, k, 3, 3, 0.8)
                told = leaves_apart(ingredients=3, one=one, other=other)
                self.assertEqual(told, plainly_apart(3, one, other))
                if told is not None and told[0] <= most_labels(k):
                    n, c, i = told
                    table = shift_table(k, cyclic(n), [c * x % n for x in range(n)])
                    naming = [int(j == i) for j in range(3)]
                    self.assertNotEqual(label_of(table, naming, one), label_of(table, naming, other))
                    tables += 1
            self.assertGreater(tables, 20)

    def test_like_leaves(self):
        rnd = generator(7)
        for k in SIZES:
            for _ in range(20):
                recipe = random_recipe(rnd, k, 4, 4, 0.9)
                if isinstance(recipe, tuple):
                    self.assertIsNone(leaves_apart(4, recipe, same_leaves(rnd, recipe)))
            self.assertIsNone(leaves_apart(2, 1, 1))
            self.assertEqual(leaves_apart(2, 0, 1), (2, 0, 0))
            # 0 ** 0 is 1: an ingredient alone counts for c = 0, but nothing in a blend does.
            self.assertEqual(leaves_apart(1, 0, (0,) * k), (2, 0, 0))
            deep = ((0,) * k,) + (0,) * (k - 1)
            self.assertEqual(leaves_apart(1, (0,) * k, deep), plainly_apart(1, (0,) * k, deep))

    def test_great_recipes(self):
        rnd = generator(8)
        for k in SIZES:
            one, other = grown_recipe(rnd, k, 12, 2000), grown_recipe(rnd, k, 12, 2000)
            self.assertEqual(leaves_apart(12, one, other), plainly_apart(12, one, other))
            self.assertGreater(len(ingredient_row(one)), 1900)
        # These are the same for all c modulo 2, and modulo 3, so that n has to be greater.
        one = ((0, (0, 1)), (1, (1, 1)))
        for other in (((1, (0, 1)), (0, (1, 1))), ((0, (1, 1)), ((0, 1), (1, 1)))):
            self.assertEqual(leaves_apart(2, one, other), plainly_apart(2, one, other))


def plainly_apart(ingredients, one, other):
    rows = [leaves(one), leaves(other)]
    if rows[0] == rows[1]:
        return None
    for n in itertools.count(2):
        for c in range(n):
            for i in range(ingredients):
                sums = [sum(c ** deep for deep, j in row if j == i) for row in rows]
                if (sums[0] - sums[1]) % n:
                    return n, c, i


if __name__ == "__main__":
    unittest.main()
