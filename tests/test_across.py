"""Points 76 to 78: faithful racks, tables of other sizes, and bowl stories."""

import itertools
import math
import unittest
from fractions import Fraction

from mixlabels.across import is_rack_fault, mixed_label, rack_fault, shares_label
from mixlabels.bowlstories import bowl_story, is_bowl_story
from mixlabels.combining import mean_table
from mixlabels.faults import fault, is_fault
from mixlabels.forms import form_of
from mixlabels.lifting import mixture_label
from mixlabels.mixed import checked_mixed, is_shares, mixed_recipe, mixed_shares
from mixlabels.othersizes import other_table, table_sizes
from mixlabels.racks import Rack, standard_rack
from mixlabels.tables import Table
from mixlabels.tasting import label_of
from mixlabels.wheels import table_modulus, wheels
from tests.faithful import called_anew, drawn_faithful, faithful_tables, unfaithful_tables
from tests.helpers import (
    NO_SEQUENCES, ODD, SIZES, deep_value, error_of, first_table, generator, least_table, most_labels, random_recipe,
    random_table,
)
from tests.test_racks import ALL_SIZES, drawn_mixed, drawn_rack, drawn_shares, is_of, pair


def plain_label(rack, naming, recipe):
    if not isinstance(recipe, tuple):
        return naming[recipe]
    return rack.blend([plain_label(rack, naming, cup) for cup in recipe])


def faithful_rack(rnd, most=12):
    """The rack of all tables of some sizes that go together with a drawn one."""
    while True:
        table = drawn_faithful(rnd, rnd.choice(SIZES))
        if table.labels <= most:
            sizes = [k for k in table_sizes(table) if table.labels <= most_labels(k)]
            chosen = rnd.sample(sizes, rnd.randrange(1, len(sizes) + 1))
            return Rack([other_table(table, k) for k in chosen])


def with_one_changed(rnd, rack):
    """A rack in which one result of one table is another one, or one table is called anew."""
    tables = list(rack.tables)
    at = rnd.randrange(len(tables))
    if rnd.random() < 0.5:
        tables[at] = called_anew(rnd, tables[at])
    else:
        results = list(tables[at].results)
        results[rnd.randrange(len(results))] = rnd.randrange(rack.labels)
        tables[at] = Table(tables[at].k, rack.labels, results)
    return Rack(tables)


def breaks_across(rack, i, rows):
    by_rows = rack.blend([rack.blend(row) for row in rows])
    return by_rows != rack.blend([rack.blend(column) for column in zip(*rows)])


def all_grids(rack, i):
    rows = list(itertools.product(range(rack.labels), repeat=rack.sizes[i]))
    return itertools.product(rows, repeat=rack.sizes[0])


class MixedLabelTest(unittest.TestCase):
    def test_labels(self):
        rnd = generator(1)
        for sizes in ALL_SIZES:
            for _ in range(8):
                rack = drawn_rack(rnd, sizes)
                naming = [rnd.randrange(rack.labels) for _ in range(rnd.randrange(1, 13))]
                recipe = drawn_mixed(rnd, sizes, len(naming))
                self.assertEqual(mixed_label(rack=rack, naming=naming, recipe=recipe), plain_label(rack, naming, recipe))
                k = rnd.choice(sizes)
                recipe = random_recipe(rnd, k, len(naming), 3)
                table = rack.tables[sizes.index(k)]
                self.assertEqual(mixed_label(rack, tuple(naming), recipe), label_of(table, naming, recipe))

    def test_errors(self):
        rack = Rack([least_table(2, 3), least_table(3, 3)])
        for recipe in ((0, 1), None):
            for value in NO_SEQUENCES + ([], (), [0] * 13):
                self.assertEqual(error_of(mixed_label, rack, value, recipe), ("InvalidNaming", 12), value)
            for value in ODD + (3,):
                if value not in (0, 1, 2) or isinstance(value, (bool, float)):
                    self.assertEqual(error_of(mixed_label, rack, [0, value, None], recipe), ("InvalidNaming", 1), value)
        for value in ODD + ((0, 0, 0, 0), [0, 1], (0,), 2):
            if value not in (0, 1) or isinstance(value, (bool, float)):
                self.assertEqual(error_of(mixed_label, rack, [0, 2], value), ("InvalidRecipe", 0), value)
                self.assertEqual(error_of(mixed_label, rack, [0, 2], ((0, 1, 1), value)), ("InvalidRecipe", 3), value)


class RackFaultTest(unittest.TestCase):
    def check(self, rack):
        """Against a plain walk through all grids, if they are few."""
        found = rack_fault(rack=rack)
        faults = [fault(table) for table in rack.tables]
        wrong = [i for i, told in enumerate(faults) if told is not None]
        if wrong:
            self.assertEqual(found, (wrong[0], faults[wrong[0]]))
        elif found is not None:
            i, (word, rows) = found
            self.assertEqual((word, len(rows), {len(row) for row in rows}), ("across", rack.sizes[0], {rack.sizes[i]}))
            self.assertTrue(breaks_across(rack, i, rows))
            self.check_fewer(rack, range(1, i))
        else:
            self.check_fewer(rack, range(1, len(rack.tables)))
        if found is not None:
            self.assertIs(is_rack_fault(rack=rack, value=found), True)
        return found

    def check_fewer(self, rack, numbers):
        for i in numbers:
            if rack.labels ** (rack.sizes[0] * rack.sizes[i]) <= 5000:
                self.assertFalse(any(breaks_across(rack, i, rows) for rows in all_grids(rack, i)))
            else:
                self.assertEqual(rack.tables[i], other_table(rack.tables[0], rack.sizes[i]))

    def test_drawn_racks(self):
        rnd = generator(2)
        kinds = {}
        for _ in range(50):
            rack = faithful_rack(rnd)
            self.assertIsNone(self.check(rack))
            for _ in range(3):
                found = self.check(with_one_changed(rnd, rack))
                kind = None if found is None else found[1][0]
                kinds[kind] = kinds.get(kind, 0) + 1
            found = self.check(drawn_rack(rnd, most=4))
        self.assertEqual(set(kinds), {None, "same", "order", "grid", "across"} & set(kinds))
        self.assertGreater(kinds["across"], 3)

    def test_all_pairs_of_small_faithful_tables(self):
        for sizes in itertools.combinations(SIZES, 2):
            tables = [[table for table in faithful_tables(k) if table.labels == 2] for k in sizes]
            verdicts = set()
            for one, other in itertools.product(*tables):
                rack = Rack([other, one])
                verdicts.add(self.check(rack) is None)
            self.assertIn(True, verdicts)

    def test_across(self):
        # Joins and means of the same labels do not go together.
        rack = Rack([mean_table(3, 2), least_table(5, 2)])
        i, (word, rows) = self.check(rack)
        self.assertEqual((i, word), (1, "across"))
        rack = Rack([least_table(2, 3), least_table(3, 3), mean_table(4, 3)])
        self.assertEqual(self.check(rack)[0], 2)
        rack = Rack([mean_table(2, 3), mean_table(4, 3), mean_table(5, 3)])
        self.assertIsNone(self.check(rack))
        self.assertIsNone(self.check(Rack([least_table(3, 9)])))
        self.assertIsNone(self.check(Rack([least_table(k, 3) for k in SIZES])))
        self.assertIsNone(self.check(Rack([least_table(2, 9), least_table(3, 9)])))
        self.assertIsNone(self.check(Rack([least_table(3, 5), least_table(4, 5)])))

    def test_standard_racks(self):
        for sizes in ALL_SIZES:
            for m, d in ((1, 1), (1, 7), (2, 1), (1, 11)):
                if error_of(standard_rack, sizes, m, d) is None:
                    self.assertIsNone(rack_fault(standard_rack(sizes, m, d)))

    def test_any_fault(self):
        broken = Rack([least_table(2, 2), mean_table(3, 2), first_table(5, 2)])
        rows = next(rows for rows in all_grids(broken, 1) if breaks_across(broken, 1, rows))
        for value in ((1, ("across", rows)), (2, fault(broken.tables[2]))):
            self.assertIs(is_rack_fault(broken, value), True)
        good = (1, ("across", rows))
        same = Rack([least_table(2, 2), least_table(3, 2)])
        self.assertIs(is_rack_fault(same, good), False)
        for value in ODD + (
            list(good), (1,), good + (0,), (1, ["across", rows]), (1, ("across", list(rows))), (1, ("across", [list(row) for row in rows])),
            (1, ("across", tuple(list(row) for row in rows))), (0, ("across", rows)), (2, ("across", rows)), (3, ("across", rows)),
            (True, ("across", rows)), (-1, ("across", rows)), (None, ("across", rows)), (1, ("acros", rows)), (1, ("across",)),
            (1, ("across", rows, 0)), (1, ("across", rows[:1])), (1, ("across", rows + rows[:1])), (1, ("across", None)),
            (1, ("across", tuple(row[:2] for row in rows))), (1, ("across", ((0, 0, 0), (0, 0, 0)))), (1, ("across", ((0, 0, 2), (0, 1, 1)))),
            (1, ("across", ((0, 0, None), (0, 1, 1)))), (1, ("across", ((0, 0, True), (0, 1, 1)))), (1, (None, rows)), (1, rows),
            (0, fault(broken.tables[2])), (1, fault(broken.tables[2])), (2, list(fault(broken.tables[2]))), (2, None), (2, ()),
            (1, ("across", deep_value(40))), deep_value(50), (1, ("across", zip)), (2, ("order", (0, 0, 0, 0, 0), 0)),
        ):
            self.assertIs(is_rack_fault(broken, value), False, value)

    def test_no_rows_across_the_first_table(self):
        # Rows and columns of the first table alone are told as its own fault.
        for k in SIZES:
            table = Table(k, 3, [cups[0] if len(set(cups)) == 1 else 2 - min(cups) for cups in itertools.product(range(3), repeat=k)])
            word, rows = fault(table)
            self.assertEqual(word, "grid")
            rack = Rack([table] + [least_table(size, 3) for size in SIZES if size > k])
            self.assertIs(is_rack_fault(rack, (0, ("grid", rows))), True)
            self.assertIs(is_rack_fault(rack, (0, ("across", rows))), False)

    def test_changed_faults(self):
        rnd = generator(3)
        shown = set()
        for _ in range(300):
            rack = with_one_changed(rnd, faithful_rack(rnd, 4))
            i = rnd.randrange(len(rack.tables))
            if i:
                rows = tuple(tuple(rnd.randrange(rack.labels) for _ in range(rack.sizes[i])) for _ in range(rack.sizes[0]))
                shows = breaks_across(rack, i, rows)
                self.assertIs(is_rack_fault(rack, (i, ("across", rows))), shows)
                shown.add(shows)
            cups = tuple(rnd.randrange(rack.labels) for _ in range(rack.sizes[i]))
            for told in (("same", cups[0]), ("order", cups, 0)):
                self.assertIs(is_rack_fault(rack, (i, told)), is_fault(rack.tables[i], told))
        self.assertEqual(shown, {True, False})


class SharesLabelTest(unittest.TestCase):
    def test_labels(self):
        rnd = generator(4)
        for _ in range(150):
            rack = faithful_rack(rnd)
            m = rnd.randrange(1, 5)
            naming = [rnd.randrange(rack.labels) for _ in range(m)]
            shares = drawn_shares(rnd, rack.sizes, m)
            label = shares_label(rack=rack, naming=naming, shares=shares)
            self.assertEqual(label, plain_label(rack, naming, mixed_recipe(rack.sizes, shares)))
            recipe = drawn_mixed(rnd, rack.sizes, m, 5)
            self.assertEqual(shares_label(rack, tuple(naming), mixed_shares(m, recipe)), plain_label(rack, naming, recipe))

    def test_one_table(self):
        rnd = generator(5)
        for k in SIZES:
            for _ in range(20):
                table = drawn_faithful(rnd, k)
                naming = [rnd.randrange(table.labels) for _ in range(3)]
                mixture = (2, (1, k, k * k - k - 1))
                shares = tuple(pair(Fraction(count, k * k)) for count in mixture[1])
                self.assertEqual(shares_label(Rack([table]), naming, shares), mixture_label(table, naming, mixture))

    def test_many_ingredients_and_great_shares(self):
        rack = Rack([mean_table(2, 5), mean_table(3, 5), mean_table(4, 5)])
        shares = tuple(pair(Fraction(1, 12)) for _ in range(12))
        self.assertEqual(shares_label(rack, [1] * 12, shares), 1)
        bottom = 6 ** 50
        shares = ((1, bottom), (bottom - 1, bottom))
        self.assertEqual(shares_label(rack, [1, 0], shares), pow(bottom, -1, 5))

    def test_errors(self):
        rack = Rack([least_table(2, 3), least_table(3, 3)])
        good = ((1, 6), (5, 6))
        for value in NO_SEQUENCES + ([], (), [0] * 13):
            self.assertEqual(error_of(shares_label, rack, value, None), ("InvalidNaming", 12), value)
        for value in ODD + (3,):
            if value not in (0, 1, 2) or isinstance(value, (bool, float)):
                self.assertEqual(error_of(shares_label, rack, [0, value, None], None), ("InvalidNaming", 1), value)
        for value in ODD + (
            list(good), good[:1], good + ((0, 1),), ((1, 1),), ((1, 5), (4, 5)), ((1, 6), [5, 6]), ((2, 12), (10, 12)), ((-1, 6), (7, 6)),
            ((1, 6), (4, 6)), ((1, 6), None), deep_value(30), ((True, 1), (0, 1)),
        ):
            self.assertEqual(error_of(shares_label, rack, [0, 2], value), ("InvalidMixture", 0), value)
        for k in SIZES:
            for table, number in unfaithful_tables(k):
                tables = [table] + [least_table(size, 3) for size in SIZES if size != k]
                at = SIZES.index(k)
                for naming, shares in (([0], ((1, 1),)), (None, None), ([0], None)):
                    self.assertEqual(error_of(shares_label, Rack(tables), naming, shares), ("NotFaithful", at))
        across = Rack([least_table(2, 3), least_table(3, 3), mean_table(4, 3)])
        self.assertEqual(error_of(shares_label, across, None, None), ("NotFaithful", 2))


class OtherSizesTest(unittest.TestCase):
    def test_there_and_back(self):
        rnd = generator(6)
        for k in SIZES:
            for _ in range(25):
                table = drawn_faithful(rnd, k)
                modulus = table_modulus(table)
                sizes = tuple(size for size in SIZES if math.gcd(size, modulus) == 1)
                self.assertEqual(table_sizes(table=table), sizes)
                for size in SIZES:
                    common = [prime for prime in (2, 3, 5) if size % prime == 0 and modulus % prime == 0]
                    if common:
                        self.assertEqual(error_of(other_table, table, size), ("Refused", common[0]))
                    elif table.labels > most_labels(size):
                        self.assertEqual(error_of(other_table, table, size), ("Refused", 0))
                    elif rnd.random() < 0.5:
                        self.check(table, other_table(table=table, size=size), size)

    def check(self, table, other, size):
        self.assertEqual((other.k, other.labels), (size, table.labels))
        self.assertIs(other_table(table, table.k), table)
        self.assertEqual(other_table(other, table.k), table)
        if size == table.k:
            self.assertEqual(other, table)
            return
        self.assertIsNone(rack_fault(Rack([table, other])))
        self.assertEqual(wheels(other), wheels(table))
        forms = form_of(table), form_of(other)
        self.assertEqual(*((form.sums, form.joins, form.maps) for form in forms))

    def test_means_and_joins(self):
        self.assertEqual(other_table(mean_table(2, 3), 4), mean_table(4, 3))
        self.assertEqual(other_table(mean_table(5, 3), 2), mean_table(2, 3))
        self.assertEqual(other_table(least_table(2, 3), 5), least_table(5, 3))
        self.assertEqual(error_of(other_table, mean_table(2, 3), 3), ("Refused", 3))
        self.assertEqual(error_of(other_table, mean_table(2, 9), 3), ("Refused", 3))
        self.assertEqual(error_of(other_table, mean_table(3, 8), 4), ("Refused", 2))
        self.assertEqual(error_of(other_table, mean_table(3, 8), 5), ("Refused", 0))
        self.assertEqual(error_of(other_table, mean_table(2, 5), 5), ("Refused", 5))
        self.assertEqual(error_of(other_table, least_table(2, 10), 3), ("Refused", 0))
        self.assertEqual(table_sizes(least_table(2, 12)), (2, 3, 4, 5))
        self.assertEqual(table_sizes(mean_table(2, 9)), (2, 4, 5))
        self.assertEqual(table_sizes(mean_table(2, 3)), (2, 4, 5))

    def test_the_only_one(self):
        # Of all tables of two labels just one goes together with each faithful one.
        for k, size in ((2, 3), (3, 2), (5, 3), (4, 2), (5, 2)):
            for table in faithful_tables(k):
                if table.labels == 2:
                    fits = []
                    for results in itertools.product(range(2), repeat=2 ** size):
                        other = Table(size, 2, results)
                        if other.blend([0] * size) == 0 and other.blend([1] * size) == 1 and rack_fault(Rack([table, other])) is None:
                            fits.append(other)
                    if table_modulus(table) % 2 == 0 and size % 2 == 0:
                        self.assertEqual(fits, [])
                    else:
                        self.assertEqual(fits, [other_table(table, size)])

    def test_errors(self):
        for k in SIZES:
            for table, number in unfaithful_tables(k):
                for size in (k, 2, None, 9):
                    self.assertEqual(error_of(other_table, table, size), ("NotFaithful", number))
                self.assertEqual(error_of(table_sizes, table), ("NotFaithful", number))
            for value in ODD + (1, 6, 0):
                self.assertEqual(error_of(other_table, least_table(k, 2), value), ("InvalidBowl", 0), value)


class BowlStoryTest(unittest.TestCase):
    def test_stories(self):
        rnd = generator(7)
        for sizes in ALL_SIZES:
            for _ in range(20):
                rack = drawn_rack(rnd, sizes, 5) if rnd.random() < 0.7 else None
                if rack is None:
                    labels = rnd.randrange(1, min(5, *(most_labels(k) for k in sizes)) + 1)
                    rack = Rack([least_table(k, labels) for k in sizes])
                naming = [rnd.randrange(rack.labels) for _ in range(rnd.randrange(2, 6))]
                for k, l in itertools.product(sizes, repeat=2):
                    if is_of(l, (k,)):
                        self.assertEqual(error_of(bowl_story, rack, naming, k, l), ("Refused", 0))
                    else:
                        told = bowl_story(rack=rack, naming=naming, k=k, l=l)
                        self.assertTrue(plainly_story(rack, naming, k, told))
                        for recipe in told:
                            self.assertEqual(checked_mixed(tuple(sorted((k, l))), len(naming), recipe), recipe)
                        self.assertIs(is_bowl_story(rack=rack, naming=tuple(naming), k=k, value=told), True)

    def test_a_long_way(self):
        # Each blend by bowl l with cups 4 has the next label, so that the line is as long as it can be.
        for k, l in ((2, 3), (4, 3)):
            def next_label(cups):
                low = min(cups)
                return max(low - 1, 0) if low < 4 else 3
            other = Table(l, 5, [next_label(cups) for cups in itertools.product(range(5), repeat=l)])
            rack = Rack([least_table(k, 5), other])
            told = bowl_story(rack, [3, 4], k, l)
            self.assertTrue(plainly_story(rack, [3, 4], k, told))
            told = bowl_story(rack, [4, 4], k, l)
            self.assertTrue(plainly_story(rack, [4, 4], k, told))

    def test_changed(self):
        rnd = generator(8)
        shown = {True: 0, False: 0}
        for _ in range(600):
            rack = drawn_rack(rnd, rnd.choice([sizes for sizes in ALL_SIZES if len(sizes) > 1]), 3)
            naming = [rnd.randrange(rack.labels) for _ in range(2)]
            k = rnd.choice(rack.sizes)
            value = tuple(drawn_mixed(rnd, rack.sizes, 2, 3, 0.9) for _ in range(2))
            bigger = [l for l in rack.sizes if not is_of(l, (k,))]
            if bigger and rnd.random() < 0.6:
                one, other = bowl_story(rack, naming, k, rnd.choice(bigger))
                value = rnd.choice([(one, other), (other, one), (one, one), (one, value[1]), (value[0], other), ((one,) * k, (other,) * k)])
            shows = plainly_story(rack, naming, k, value)
            shown[shows] += 1
            self.assertIs(is_bowl_story(rack, naming, k, value), shows)
        self.assertGreater(min(shown.values()), 50)

    def test_any_value(self):
        rack = Rack([least_table(2, 2), least_table(3, 2)])
        good = ((0, 1), (0, (0, 1, 1)))
        self.assertIs(is_bowl_story(rack, [0, 1], 2, good), True)
        self.assertIs(is_bowl_story(rack, [0, 1], 3, good), False)
        self.assertIs(is_bowl_story(rack, [0, 1], 3, ((0, 0, 1), (0, 1))), True)
        for value in ODD + (
            list(good), good[:1], good + (0,), ([0, 1], good[1]), (good[0], [0, (0, 1, 1)]), (good[0], (0, [0, 1, 1])), (None, good[1]),
            (good[0], None), ((0, 0), good[1]), ((0, True), good[1]), ((0, 2), good[1]), (good[0], (0, (0, 0, 0))), (good[0], (0, (0, 1, 1, 1))),
            good[::-1], (good[0], good[0]), (good[0], (1, (1, 1, 1))), deep_value(60), (0, 1), (good[0], (0, (0, 1, 2))),
        ):
            self.assertIs(is_bowl_story(rack, [0, 1], 2, value), False, value)
        deep = (0, (0, 1, 1))
        for _ in range(11):
            deep = (deep, 0)
        self.assertIs(is_bowl_story(rack, [0, 1], 2, ((0, 1), deep)), False)
        self.assertIs(is_bowl_story(rack, [0, 1], 2, ((0, 1), deep[0])), True)


def plainly_story(rack, naming, k, value):
    rows = [mixed_shares(len(naming), recipe) for recipe in value]
    if [share[0] == 0 for share in rows[0]] != [share[0] == 0 for share in rows[1]]:
        return False
    if plain_label(rack, naming, value[0]) != plain_label(rack, naming, value[1]):
        return False
    return is_shares((k,), rows[0]) and not is_shares((k,), rows[1])


if __name__ == "__main__":
    unittest.main()
