"""Points 35 and 36: forms, their tables, and labels called anew."""

import itertools
import unittest

from mixlabels.combining import mean_table, pair_table
from mixlabels.faults import fault
from mixlabels.forms import Form, form_of, form_table, renamed
from mixlabels.lifting import lift, wheel_joins
from mixlabels.tables import Table
from mixlabels.wheels import wheel_sum, wheels
from tests.faithful import (
    CHAINS, called_anew, chain_form, cyclic, drawn_faithful, faithful_tables, fork_form, klein_form, unfaithful_tables,
)
from tests.helpers import (
    NO_SEQUENCES, ODD, SIZES, deep_value, error_of, generator, least_table, most_labels, random_table,
)


def as_lists(form):
    """The arguments of a form, as lists throughout."""
    sums = [[list(row) for row in rows] for rows in form.sums]
    joins = [list(row) for row in form.joins]
    maps = [[None if row is None else list(row) for row in rows] for rows in form.maps]
    return sums, joins, maps


def is_sum_table(rows):
    n = len(rows)
    return all(rows[0][a] == a and 0 in rows[a] for a in range(n)) and all(
        rows[a][b] == rows[b][a] and rows[rows[a][b]][c] == rows[a][rows[b][c]]
        for a, b, c in itertools.product(range(n), repeat=3)
    )


def plain_error(sums, joins, maps):
    """The number of the first argument that is wrong, for sums and joins of the right lengths, or None."""
    if not all(is_sum_table(rows) for rows in sums):
        return 0
    n = len(sums)
    for a, b, c in itertools.product(range(n), repeat=3):
        if joins[a][a] != a or joins[a][b] != joins[b][a] or joins[joins[a][b]][c] != joins[a][joins[b][c]]:
            return 1
    for v, w in itertools.product(range(n), repeat=2):
        entry = maps[v][w]
        if (entry is not None) != (joins[v][w] == w):
            return 2
        if entry is not None:
            if len(entry) != len(sums[v]) or max(entry) >= len(sums[w]):
                return 2
            for a, b in itertools.product(range(len(sums[v])), repeat=2):
                if sums[w][entry[a]][entry[b]] != sums[w][entry[0]][entry[sums[v][a][b]]]:
                    return 2
            if v == w and list(entry) != list(range(len(entry))):
                return 2
    for v, w, u in itertools.product(range(n), repeat=3):
        if maps[v][w] is not None and maps[w][u] is not None:
            if [maps[w][u][x] for x in maps[v][w]] != list(maps[v][u]):
                return 2
    return None


def turns_and_flips():
    """A table that is a sum table but for the order of the two: turns and flips of a square."""
    shapes = [(turn, flip) for flip in (0, 1) for turn in range(4)]
    return [[shapes.index(((a + (-b if flip else b)) % 4, flip ^ other)) for b, other in shapes] for a, flip in shapes]


class FormTest(unittest.TestCase):
    def forms(self, k):
        found = [chain_form(k, *told) for told in CHAINS[k]] + [form_of(table) for table in faithful_tables(k)[::3]]
        return found + ([fork_form(k), klein_form(k)] if k == 3 else [])

    def test_attributes(self):
        for k in SIZES:
            for form in self.forms(k):
                sums, joins, maps = as_lists(form)
                again = Form(k=k, sums=sums, joins=joins, maps=maps)
                self.assertTrue(again == form)
                self.assertEqual((again.k, again.labels), (k, sum(len(rows) for rows in sums)))
                self.assertEqual((again.sums, again.joins, again.maps), (form.sums, form.joins, form.maps))
                for told in (again.sums, again.joins, again.maps, *again.sums, *again.joins, *again.maps):
                    self.assertIsInstance(told, tuple)
                for entry in (*itertools.chain(*again.sums), *itertools.chain(*again.maps)):
                    self.assertTrue(entry is None or isinstance(entry, tuple))
                sums[0][0][0] = joins[0][0] = maps[0][0] = None
                self.assertTrue(again == form)

    def test_equal(self):
        one = chain_form(3, (2, 4), [(2, 3)])
        self.assertTrue(one == chain_form(3, (2, 4), [(2, 3)]))
        self.assertFalse(one != chain_form(3, (2, 4), [(2, 3)]))
        self.assertFalse(one == chain_form(3, (2, 4), [(2, 1)]))
        self.assertFalse(one == chain_form(5, (2, 1), [(0, 0)]))
        self.assertFalse(chain_form(3, (2, 1), [(0, 0)]) == chain_form(5, (2, 1), [(0, 0)]))
        self.assertFalse(chain_form(3, (1, 2), [(0, 0)]) == chain_form(3, (2, 1), [(0, 0)]))
        other = Form(3, one.sums, ((0, 0), (0, 1)), ((one.maps[0][0], None), ((0, 0, 0, 0), one.maps[1][1])))
        self.assertFalse(one == other)
        whole = [[[0, 1, 2, 3]]]
        self.assertFalse(Form(3, [cyclic(4)], [[0]], whole) == klein_form(3))
        for value in ODD + ((one.k, one.sums, one.joins, one.maps), form_table(one)):
            self.assertFalse(one == value)
            self.assertTrue(one != value)

    def test_one_entry_changed(self):
        rnd = generator(1)
        for k in SIZES:
            for form in self.forms(k):
                for _ in range(12):
                    sums, joins, maps = as_lists(form)
                    rows = rnd.choice([rnd.choice(sums), joins, rnd.choice(maps)])
                    row = rnd.choice(rows)
                    if row is not None:
                        at = rnd.randrange(len(row))
                        if isinstance(row[at], list):
                            row, at = row[at], rnd.randrange(len(row[at]))
                        row[at] = rnd.randrange(len(row)) if row[at] is not None else [0]
                    wrong = plain_error(sums, joins, maps)
                    told = error_of(Form, k, sums, joins, maps)
                    self.assertEqual(told, None if wrong is None else ("InvalidForm", wrong))

    def test_wrong_bowl(self):
        for value in ODD + (0, 1, 6, 2.0):
            self.assertEqual(error_of(Form, value, [[[0]]], [[0]], [[[0]]]), ("InvalidBowl", 0), value)
            self.assertEqual(error_of(Form, value, None, None, None), ("InvalidBowl", 0), value)

    def test_wrong_sums(self):
        good = cyclic(3)
        wrong = [
            [[]], [[[]]], [None], [[None]], [[0]], [good, None], [None, good], [[[1]]], [[[0, 1, 2], [1, 2, 0]]],
            [[[0, 1, 2], [1, 2, 0], [2, 0]]], [[[0, 1, 2], [1, 2, 0], [2, 0, 3]]], [[[0, 1, 2], [1, 2, 0], [2, 0, True]]],
            [[[0, 1, 2], [1, 2, 0], "201"]], [[[0, 1, 2], [2, 0, 1], [1, 2, 0]]], [[[1, 2, 0], [2, 0, 1], [0, 1, 2]]],
            [[[0, 1, 2], [1, 1, 2], [2, 2, 2]]], [[[0, 1, 2], [1, 0, 0], [2, 0, 1]]], [good] * 5, [[[0]]] * 13,
            [[[0]]] * 10 + [good], {0: good}, [{0: [0]}], [cyclic(15)], deep_value(40), [[[0, 1], [1, 0]]], [[[0.0]]],
        ]
        for value in wrong + list(ODD):
            for joins, maps in (([[0]], [[[0, 1, 2]]]), (None, None)):
                self.assertEqual(error_of(Form, 2, value, joins, maps), ("InvalidForm", 0), value)
        self.assertIsNone(error_of(Form, 2, [good], [[0]], [[[0, 1, 2]]]))
        self.assertFalse(is_sum_table(turns_and_flips()))
        told = error_of(Form, 3, [turns_and_flips()], [[0]], [[list(range(8))]])
        self.assertEqual(told, ("InvalidForm", 0))
        self.assertIsNone(error_of(Form, 3, [cyclic(8)], [[0]], [[list(range(8))]]))
        for k in SIZES:
            for size in range(1, 14):
                good = size <= most_labels(k) and all(size % p or k % p for p in (2, 3, 5))
                told = error_of(Form, k, [cyclic(size)], [[0]], [[list(range(size))]])
                self.assertEqual(told, None if good else ("InvalidForm", 0), (k, size))

    def test_wrong_joins(self):
        sums, joins, maps = as_lists(chain_form(2, (3, 1), [(0, 0)]))
        wrong = [
            [], [[0, 1]], [[0, 1], [1]], [[0, 1], None], [None, [1, 1]], [[0, 1], [1, 2]], [[0, 1], [0, 1]],
            [[1, 1], [1, 1]], [[0, 1], [1, 0]], [[0, 1], [1, True]], [[0, 1], [1, -1]], [[0, 1], [1, 1], [1, 1]],
            [[0, 1, 1], [1, 1, 1]], ["01", "11"], {0: [0, 1], 1: [1, 1]}, [[0, 1], [1, 1.0]], deep_value(40),
        ]
        for value in wrong + list(ODD):
            for entry in (maps, None):
                self.assertEqual(error_of(Form, 2, sums, value, entry), ("InvalidForm", 1), value)
        not_grouped = [[0, 1, 0], [1, 1, 2], [0, 2, 2]]
        self.assertEqual(error_of(Form, 2, [[[0]]] * 3, not_grouped, None), ("InvalidForm", 1))

    def test_wrong_maps(self):
        sums, joins, maps = as_lists(chain_form(2, (3, 3), [(2, 1)]))
        whole, up = maps[0]
        wrong = [
            [], [maps[0]], [maps[0], None], [None, maps[1]], [[whole], maps[1]], [[whole, up, up], maps[1]],
            [maps[0], maps[1], maps[1]], [[None, up], maps[1]], [[whole, None], maps[1]], [maps[0], [up, whole]],
            [[whole, up[:2]], maps[1]], [[whole, up + [0]], maps[1]], [[whole, [0, 1, 3]], maps[1]],
            [[whole, [0, 1, True]], maps[1]], [[whole, [0, 1, 1]], maps[1]], [[up, up], maps[1]], [[whole, "012"], maps[1]],
            [[[1, 2, 0], up], maps[1]], {0: maps[0], 1: maps[1]}, [maps[0], [False, whole]], [maps[0], [(), whole]],
            [[whole, [0, 1, 2.0]], maps[1]], [maps[0], [0, whole]],
        ]
        for value in wrong + list(ODD):
            self.assertEqual(error_of(Form, 2, sums, joins, value), ("InvalidForm", 2), value)
        self.assertIsNone(error_of(Form, 2, sums, joins, maps))
        sums, joins, maps = as_lists(chain_form(2, (3, 3, 3), [(2, 1), (1, 2)]))
        maps[0][2] = [0, 1, 2]
        self.assertEqual(error_of(Form, 2, sums, joins, maps), ("InvalidForm", 2))


class FormTableTest(unittest.TestCase):
    def test_forms_of_tables(self):
        rnd = generator(2)
        for k in SIZES:
            for table in rnd.sample(faithful_tables(k), 14) + [drawn_faithful(rnd, k) for _ in range(6)]:
                form = form_of(table=table)
                rows = wheels(table)
                self.assertEqual((form.k, form.labels, form.joins), (k, table.labels, wheel_joins(table)))
                for w, wheel in enumerate(rows):
                    for _ in range(8):
                        a, b = rnd.choice(wheel), rnd.choice(wheel)
                        total = form.sums[w][wheel.index(a)][wheel.index(b)]
                        self.assertEqual(wheel[total], wheel_sum(table, wheel[0], a, b))
                for v, w in itertools.product(range(len(rows)), repeat=2):
                    entry = form.maps[v][w]
                    self.assertEqual(entry is None, form.joins[v][w] != w)
                    if entry is not None:
                        x = rnd.randrange(len(rows[v]))
                        self.assertEqual(rows[w][entry[x]], lift(table, rows[v][x], rows[w][0]))
                names = [label for wheel in rows for label in wheel]
                self.assertTrue(renamed(form_table(form=form), names) == table)

    def test_tables_of_forms(self):
        for k in SIZES:
            for told in CHAINS[k]:
                form = chain_form(k, *told)
                table = form_table(form)
                self.assertIsNone(fault(table))
                self.assertTrue(form_of(table) == form)
                self.check(form, table)
        for form in (fork_form(3), klein_form(3)):
            self.assertTrue(form_of(form_table(form)) == form)
            self.check(form, form_table(form))

    def check(self, form, table):
        numbers = [(w, x) for w, rows in enumerate(form.sums) for x in range(len(rows))]
        for cups in itertools.product(range(form.labels), repeat=form.k):
            top = numbers[cups[0]][0]
            for cup in cups:
                top = form.joins[top][numbers[cup][0]]
            total, often = 0, 0
            wheel, x = numbers[table.blend(cups)]
            for cup in cups:
                v, y = numbers[cup]
                total = form.sums[top][total][form.maps[v][top][y]]
                often = form.sums[top][often][x]
            self.assertEqual((wheel, often), (top, total))

    def test_examples(self):
        self.assertEqual(form_of(mean_table(2, 3)).sums, (((0, 1, 2), (1, 2, 0), (2, 0, 1)),))
        self.assertEqual(form_of(least_table(5, 2)).maps, (((0,), None), ((0,), (0,))))
        for k in SIZES:
            self.assertEqual(form_table(Form(k, [[[0]]], [[0]], [[[0]]])), Table(k, 1, [0]))
            self.assertEqual(form_of(Table(k, 1, [0])).labels, 1)
        form = form_of(pair_table(least_table(2, 2), mean_table(2, 3)))
        self.assertEqual(form.joins, ((0, 0), (0, 1)))
        self.assertEqual(form.maps, (((0, 1, 2), None), ((0, 1, 2), (0, 1, 2))))

    def test_not_faithful(self):
        for k in SIZES:
            for table, at in unfaithful_tables(k):
                self.assertEqual(error_of(form_of, table), ("NotFaithful", at))


class RenamedTest(unittest.TestCase):
    def test_names(self):
        rnd = generator(3)
        for k in SIZES:
            for labels in range(1, most_labels(k) + 1):
                table = random_table(rnd, k, labels)
                names = rnd.sample(range(labels), labels)
                told = renamed(table=table, names=names)
                for cups in itertools.islice(itertools.product(range(labels), repeat=k), 150):
                    self.assertEqual(told.blend([names[cup] for cup in cups]), names[table.blend(cups)])
                self.assertEqual(renamed(table, tuple(names)), told)
                self.assertEqual(called_anew(rnd, table).labels, labels)

    def test_wrong_names(self):
        for k in SIZES:
            for table in (least_table(k, 3), random_table(generator(4), k, 3)):
                for value in NO_SEQUENCES + ([], (), [0], [2, 1], (1, 0)):
                    self.assertEqual(error_of(renamed, table, value), ("InvalidNaming", 3), value)
                for value in ODD + (3, 0, 1.0, (0,)):
                    self.assertEqual(error_of(renamed, table, [0, value]), ("InvalidNaming", 1), value)
                    self.assertEqual(error_of(renamed, table, [0, 1, value]), ("InvalidNaming", 2), value)
                    self.assertEqual(error_of(renamed, table, [0, 0, value]), ("InvalidNaming", 1), value)
                    self.assertEqual(error_of(renamed, table, [1, 2, 0, value]), ("InvalidNaming", 3), value)
                self.assertEqual(error_of(renamed, table, [1, 2, 0, 1]), ("InvalidNaming", 3))
                self.assertEqual(error_of(renamed, table, deep_value(300)), ("InvalidNaming", 0))

    def test_later_changes(self):
        names = [1, 0]
        told = renamed(least_table(2, 2), names)
        names[0] = 5
        self.assertEqual(told.results, (0, 1, 1, 1))


if __name__ == "__main__":
    unittest.main()
