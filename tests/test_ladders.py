"""Points 50, 51 and 52: rising tables, ladders and their outlines."""

import itertools
import math
import unittest

from mixlabels.alike import kinds
from mixlabels.combining import mean_table
from mixlabels.faults import fault
from mixlabels.forms import renamed
from mixlabels.ladders import ladder_table, leader
from mixlabels.outlines import (
    list_count, nth_outline, outline_count, outline_for, outline_index, outline_of,
)
from mixlabels.rising import fall, is_fall
from mixlabels.tables import Table
from mixlabels.tasting import label_of
from tests.faithful import star_table, unfaithful_tables
from tests.helpers import (
    NO_SEQUENCES, ODD, SIZES, deep_value, error_of, first_table, generator, least_table, most_labels, random_recipe,
    random_table,
)


def plain_leader(row, x, y):
    return min(range(min(x, y), max(x, y) + 1), key=row.index)


def plain_fall(table):
    for cups in itertools.product(range(table.labels), repeat=table.k):
        for i in range(table.k):
            if cups[i] + 1 < table.labels:
                better = cups[:i] + (cups[i] + 1,) + cups[i + 1:]
                if table.blend(cups) > table.blend(better):
                    return cups, i
    return None


def all_outlines(n):
    """All outlines of n labels: the first list of each ladder."""
    found = {}
    for row in itertools.permutations(range(n)):
        told = tuple(plain_leader(row, x, y) for x in range(n) for y in range(x, n))
        found.setdefault(told, []).append(row)
    return {min(rows): rows for rows in found.values()}


def drawn_outline(rnd, n):
    return outline_for(rnd.sample(range(n), n))


class RisingTest(unittest.TestCase):
    def test_falls(self):
        rnd = generator(1)
        for k in SIZES:
            rising = 0
            for labels in range(1, most_labels(k) + 1):
                for _ in range(6):
                    table = rnd.choice([random_table(rnd, k, labels), self.nearly_rising(rnd, k, labels)])
                    told = fall(table=table)
                    self.assertEqual(told, plain_fall(table))
                    self.assertIs(is_fall(table=table, value=told), told is not None)
                    rising += told is None
            self.assertGreater(rising, 0)
            self.assertIsNone(fall(first_table(k, 3)))
            self.assertIsNone(fall(Table(k, 1, [0])))

    def nearly_rising(self, rnd, k, labels):
        results = [rnd.choice([sum(cups) // k, max(cups)]) if rnd.random() < 0.1 else sum(cups) // k
                   for cups in itertools.product(range(labels), repeat=k)]
        return Table(k, labels, results)

    def test_is_fall_tells_all(self):
        rnd = generator(2)
        for k in SIZES:
            table = random_table(rnd, k, 3)
            for cups in itertools.islice(itertools.product(range(-1, 4), repeat=k), 0, None, 3):
                for i in range(-1, k + 1):
                    good = min(cups) >= 0 and max(cups) < 3 and 0 <= i < k and cups[i] < 2
                    better = tuple(cup + (at == i) for at, cup in enumerate(cups))
                    shows = good and table.blend(cups) > table.blend(better)
                    self.assertIs(is_fall(table, (cups, i)), bool(shows))

    def test_is_fall_any_value(self):
        table = Table(2, 2, [1, 0, 1, 0])
        self.assertIs(is_fall(table, ((0, 0), 1)), True)
        wrong = [
            [(0, 0), 1], ([0, 0], 1), ((0, 0), True), ((0, 0), 1.0), ((0, 0),), ((0, 0), 1, 1), ((False, 0), 1),
            ((0, 0, 0), 1), ((0,), 0), ("00", 1), (None, 1), ((0, 0), None), (1, (0, 0)), deep_value(200), ((0, 0), -1),
        ]
        for value in wrong + list(ODD):
            self.assertIs(is_fall(table, value), False, value)


class LadderTest(unittest.TestCase):
    def test_leaders(self):
        rnd = generator(3)
        for n in (1, 2, 5, 12, 40):
            for _ in range(5):
                row = rnd.sample(range(n), n)
                for _ in range(30):
                    x, y = rnd.randrange(n), rnd.randrange(n)
                    self.assertEqual(leader(priorities=row, x=x, y=y), plain_leader(row, x, y))
                    self.assertEqual(leader(tuple(row), y, x), plain_leader(row, x, y))

    def test_tables(self):
        rnd = generator(4)
        for k in SIZES:
            for n in range(1, most_labels(k) + 1):
                row = rnd.sample(range(n), n)
                table = ladder_table(k=k, priorities=row)
                self.assertEqual((table.k, table.labels), (k, n))
                for cups in itertools.product(range(n), repeat=k):
                    self.assertEqual(table.blend(cups), plain_leader(row, min(cups), max(cups)))
                self.assertIsNone(fall(table))
                self.assertIsNone(fault(table))
                naming = [rnd.randrange(n) for _ in range(3)]
                for _ in range(5):
                    recipe = random_recipe(rnd, k, 3, 3)
                    self.assertEqual(label_of(table, naming, recipe), self.leader_in(table, row, naming, recipe))
        self.assertEqual(ladder_table(2, (1, 0, 2)).results, (0, 1, 1, 1, 1, 1, 1, 1, 2))

    def leader_in(self, table, row, naming, recipe):
        found = []
        waiting = [recipe]
        while waiting:
            here = waiting.pop()
            if isinstance(here, tuple):
                waiting.extend(here)
            else:
                found.append(naming[here])
        return plain_leader(row, min(found), max(found))

    def test_these_are_the_ladders(self):
        for k in SIZES:
            for n in range(1, min(4, most_labels(k)) + 1):
                tables = [renamed(table, names) for table in kinds(k, n) for names in itertools.permutations(range(n))]
                rising = {table.results for table in tables if fall(table) is None}
                told = {ladder_table(k, row).results for row in itertools.permutations(range(n))}
                self.assertEqual(rising, told)
                self.assertEqual(len(told), outline_count(n))

    def test_wrong_lists(self):
        works = ((leader, (0, 0), ()), (outline_for, (), ()), (ladder_table, (), (2,)))
        for work, behind, ahead in works:
            for value in NO_SEQUENCES + ([], ()):
                self.assertEqual(error_of(work, *ahead, value, *behind), ("Refused", 0), value)
            for value in ODD + (3, 0, 1.0, (0,)):
                for row, at in (([0, value, 2], 1), ((1, 0, value), 2), ([value, 1, value], 0)):
                    if not (row[0] == 0 and at == 0 and isinstance(value, int) and not isinstance(value, bool)):
                        self.assertEqual(error_of(work, *ahead, row, *behind), ("Refused", at), (row, value))
            self.assertEqual(error_of(work, *ahead, [0, 1, 1, None], *behind), ("Refused", 2))
            self.assertEqual(error_of(work, *ahead, [1, 2], *behind), ("Refused", 1))
            self.assertEqual(error_of(work, *ahead, [1], *behind), ("Refused", 0))
            self.assertEqual(error_of(work, *ahead, deep_value(200), *behind), ("Refused", 0))

    def test_which_error_goes_first(self):
        for value in ODD + (0, 1, 6, 2.0):
            for row in ([0], None, [0, 0], list(range(13))):
                self.assertEqual(error_of(ladder_table, value, row), ("InvalidBowl", 0), value)
        for k in SIZES:
            many = most_labels(k) + 1
            self.assertEqual(error_of(ladder_table, k, list(range(many))), ("InvalidTable", 0))
            self.assertEqual(error_of(ladder_table, k, list(range(40))), ("InvalidTable", 0))
            self.assertEqual(error_of(ladder_table, k, list(range(many)) + [0]), ("Refused", many))
            self.assertEqual(error_of(ladder_table, k, [many] + list(range(many - 1))), ("Refused", 0))

    def test_later_changes(self):
        row = [1, 0, 2]
        told = ladder_table(2, row), outline_for(row)
        row.reverse()
        self.assertEqual((told[0].results, told[1]), ((0, 1, 1, 1, 1, 1, 1, 1, 2), (1, 0, 2)))


class OutlineTest(unittest.TestCase):
    def test_against_all_lists(self):
        for n in range(1, 8):
            told = all_outlines(n)
            row = sorted(told)
            self.assertEqual(outline_count(n=n), len(row))
            for at, outline in enumerate(row):
                self.assertEqual(nth_outline(n=n, at=at), outline)
                self.assertEqual(outline_index(outline=outline), at)
                self.assertEqual(list_count(outline=outline), len(told[outline]))
                for other in told[outline][::max(1, len(told[outline]) // 5)]:
                    self.assertEqual(outline_for(priorities=list(other)), outline)
            for at in (len(row), len(row) + 1, 10 ** 30):
                self.assertEqual(error_of(nth_outline, n, at), ("Refused", 0))
        self.assertEqual([outline_count(n) for n in range(1, 6)], [1, 2, 5, 14, 42])

    def test_outlines_of_tables(self):
        rnd = generator(5)
        for k in SIZES:
            for n in range(1, most_labels(k) + 1):
                row = rnd.sample(range(n), n)
                outline = outline_of(table=ladder_table(k, row))
                self.assertEqual(outline, outline_for(row))
                self.assertTrue(ladder_table(k, outline) == ladder_table(k, row))
                self.assertIsInstance(outline, tuple)

    def test_it_consists_of_its_parts(self):
        rnd = generator(6)
        for n in (2, 7, 12, 40):
            outline = drawn_outline(rnd, n)
            first = outline[0]
            less = [label for label in outline if label < first]
            greater = [label for label in outline if label > first]
            self.assertEqual(outline, (first, *less, *greater))
            self.assertEqual(outline_for(outline), outline)
            if less:
                self.assertEqual(outline_for(less), tuple(less))

    def test_forty_labels(self):
        rnd = generator(7)
        many = math.comb(80, 40) // 41
        self.assertEqual(outline_count(40), many)
        rising, falling = tuple(range(40)), tuple(reversed(range(40)))
        self.assertEqual(nth_outline(40, 0), rising)
        self.assertEqual(nth_outline(40, many - 1), falling)
        self.assertEqual(outline_index(falling), many - 1)
        self.assertEqual(error_of(nth_outline, 40, many), ("Refused", 0))
        self.assertEqual((list_count(rising), list_count(falling)), (1, 1))
        for _ in range(20):
            at = rnd.randrange(many)
            outline = nth_outline(40, at)
            self.assertEqual((outline_for(outline), outline_index(outline)), (outline, at))
            self.assertLess(nth_outline(40, at - 1), outline)
        self.assertEqual(list_count(outline_for([20] + [a for a in range(40) if a != 20])), math.comb(39, 20))
        self.assertEqual((outline_count(1), nth_outline(1, 0), list_count((0,)), outline_index((0,))), (1, (0,), 1, 0))

    def test_refused(self):
        for k in SIZES:
            for table, at in unfaithful_tables(k):
                self.assertEqual(error_of(outline_of, table), ("NotFaithful", at))
            self.assertEqual(error_of(outline_of, mean_table(k, 7 - k if k < 5 else 3)), ("Refused", 0))
            self.assertEqual(outline_of(renamed(least_table(k, 3), [0, 2, 1])), (0, 2, 1))
            self.assertEqual(error_of(outline_of, renamed(least_table(k, 3), [1, 0, 2])), ("Refused", 0))
            self.assertEqual(error_of(outline_of, star_table(k, 3)), ("Refused", 0))


if __name__ == "__main__":
    unittest.main()
