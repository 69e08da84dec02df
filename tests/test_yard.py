"""Points 85 to 87: yards of vats."""

import unittest
from fractions import Fraction

from mixlabels.errors import Refused
from mixlabels.mixtures import mixture_of
from mixlabels.recipes import is_recipe
from mixlabels.tables import Table
from mixlabels.yard import Yard
from tests.faithful import drawn_faithful
from tests.helpers import NO_SEQUENCES, ODD, SIZES, deep_value, error_of, first_table, generator, least_table, most_labels, random_table


# How deep recipes may get where they are walked through as a whole.
DEEPEST = {2: 6, 3: 4, 4: 3, 5: 3}


def depth_of(recipe):
    return 1 + max(depth_of(cup) for cup in recipe) if isinstance(recipe, tuple) else 0


def greatest_depth(plain):
    return max((depth_of(recipe) for recipe in plain.state[2].values()), default=0)


def plain_label(table, naming, recipe):
    if not isinstance(recipe, tuple):
        return naming[recipe]
    return table.blend([plain_label(table, naming, cup) for cup in recipe])


def plain_shares(k, ingredients, recipe):
    if not isinstance(recipe, tuple):
        return [Fraction(int(i == recipe)) for i in range(ingredients)]
    rows = [plain_shares(k, ingredients, cup) for cup in recipe]
    return [sum(row[i] for row in rows) / k for i in range(ingredients)]


class PlainYard:
    """Vats in a dict, by their numbers, each with its whole recipe; each deed leaves the state before it."""

    def __init__(self, table, naming):
        self.state = table, tuple(naming), {}, 0
        self.before = []

    def do(self, table, naming, vats, number):
        self.before.append(self.state)
        self.state = table, naming, vats, number

    def bring(self, ingredient):
        table, naming, vats, number = self.state
        self.do(table, naming, {**vats, number: ingredient}, number + 1)

    def blend(self, cups):
        table, naming, vats, number = self.state
        recipe = tuple(vats[cup] for cup in cups)
        left = {vat: vats[vat] for vat in vats if vat not in cups}
        self.do(table, naming, {**left, **{number + i: recipe for i in range(table.k)}}, number + table.k)

    def pour(self, vat):
        table, naming, vats, number = self.state
        self.do(table, naming, {other: vats[other] for other in vats if other != vat}, number)

    def relabel(self, table, naming):
        self.do(table, tuple(naming), *self.state[2:])

    def undo(self):
        if not self.before:
            return False
        self.state = self.before.pop()
        return True


def drawn_deed(rnd, yard, plain):
    """Does some deed in both yards; tells whether its number was told right."""
    table, naming, vats, number = plain.state
    kind = rnd.randrange(10)
    if kind < 3 or len(vats) < table.k:
        ingredient = rnd.randrange(len(naming))
        plain.bring(ingredient)
        return yard.bring(ingredient) == number
    if kind < 7:
        cups = rnd.sample(list(vats), table.k)
        plain.blend(cups)
        return yard.blend(cups) == tuple(range(number, number + table.k))
    if kind < 8:
        vat = rnd.choice(list(vats))
        plain.pour(vat)
        return yard.pour(vat) is None
    if kind < 9:
        new = random_table(rnd, table.k, rnd.randrange(1, most_labels(table.k) + 1))
        names = [rnd.randrange(new.labels) for _ in naming]
        plain.relabel(new, names)
        return yard.relabel(new, names) is None
    return yard.undo() is plain.undo()


class YardTest(unittest.TestCase):
    def check(self, yard, plain):
        table, naming, vats, _ = plain.state
        k, m = table.k, len(naming)
        self.assertEqual((yard.table, yard.naming, yard.vats()), (table, naming, tuple(sorted(vats))))
        self.assertEqual(len(yard), len(plain.before))
        labels, mixtures = {}, {}
        for vat in sorted(vats):
            labels[vat] = plain_label(table, naming, vats[vat])
            self.assertEqual(yard.label(vat=vat), labels[vat])
            self.assertEqual(yard.recipe(vat), vats[vat])
            n, counts = yard.mixture(vat)
            mixtures[vat] = n, counts
            shares = plain_shares(k, m, vats[vat])
            self.assertEqual([Fraction(count, k ** n) for count in counts], shares)
            self.assertTrue(n == 0 or any(count % k for count in counts))
            if is_recipe(k, m, vats[vat]):
                self.assertEqual((n, counts), mixture_of(k, m, vats[vat]))
        stock = [sum(plain_shares(k, m, vats[vat])[i] for vat in vats) + Fraction(0) for i in range(m)]
        self.assertEqual(yard.stock(), tuple((share.numerator, share.denominator) for share in stock))
        lots = [tuple(vat for vat in sorted(vats) if labels[vat] == label) for label in range(table.labels)]
        self.assertEqual(yard.groups(), tuple(sorted(lot for lot in lots if len(lot) > 1)))
        pairs = [(a, b) for a in sorted(vats) for b in sorted(vats) if a < b and mixtures[a] == mixtures[b] and labels[a] != labels[b]]
        self.assertEqual(yard.unlike(), min(pairs, default=None))

    def test_long_rows_of_deeds(self):
        rnd = generator(1)
        for k in SIZES:
            unlike = 0
            for _ in range(6):
                table = random_table(rnd, k, rnd.randrange(1, most_labels(k) + 1))
                naming = [rnd.randrange(table.labels) for _ in range(rnd.randrange(1, 4))]
                yard, plain = Yard(table=table, naming=naming), PlainYard(table, naming)
                self.check(yard, plain)
                for _ in range(k + 2):
                    plain.bring(0)
                    yard.bring(0)
                for _ in range(40):
                    self.assertTrue(drawn_deed(rnd, yard, plain))
                    if greatest_depth(plain) > DEEPEST[k]:
                        plain.undo()
                        yard.undo()
                    self.check(yard, plain)
                    unlike += yard.unlike() is not None
                while plain.before:
                    plain.undo()
                    self.assertIs(yard.undo(), True)
                    self.check(yard, plain)
                for _ in range(2):
                    self.assertIs(yard.undo(), False)
                    self.check(yard, plain)
                self.assertEqual(yard.bring(0), 0)
            self.assertGreater(unlike, 0)

    def test_faithful_tables_have_no_unlike_vats(self):
        rnd = generator(2)
        for k in SIZES:
            for _ in range(6):
                table = drawn_faithful(rnd, k)
                naming = [rnd.randrange(table.labels) for _ in range(3)]
                yard = Yard(table, naming)
                for _ in range(60):
                    if len(yard.vats()) < k or rnd.random() < 0.3:
                        yard.bring(rnd.randrange(3))
                    else:
                        yard.blend(rnd.sample(yard.vats(), k))
                    self.assertIsNone(yard.unlike())

    def test_within(self):
        rnd = generator(3)
        for k in SIZES:
            for _ in range(10):
                table = random_table(rnd, k, rnd.randrange(1, most_labels(k) + 1))
                naming = [rnd.randrange(table.labels) for _ in range(2)]
                yard, plain = Yard(table, naming), PlainYard(table, naming)
                for _ in range(8):
                    drawn_deed(rnd, yard, plain)
                self.check(yard, plain)

                def work(passed):
                    self.assertIs(passed, yard)
                    inner = PlainYard(table, naming)
                    inner.state, inner.before = plain.state, list(plain.before)
                    for _ in range(8):
                        if len(inner.before) > len(plain.before) + 1 or not inner.before:
                            self.assertTrue(drawn_deed(rnd, passed, inner))
                        else:
                            inner.bring(0)
                            passed.bring(0)
                        if greatest_depth(inner) <= DEEPEST[k]:
                            self.check(passed, inner)
                        if len(inner.before) < len(plain.before):
                            break
                    return passed

                self.assertIs(yard.within(work=work), yard)
                self.check(yard, plain)
                told = object()
                self.assertIs(yard.within(lambda passed: told), told)
                self.check(yard, plain)
                for error in (KeyError("x"), Refused(7), ValueError(), KeyboardInterrupt()):
                    def fails(passed):
                        passed.bring(1)
                        passed.relabel(least_table(k, 2), [1, 0])
                        raise error
                    with self.assertRaises(error.__class__) as caught:
                        yard.within(fails)
                    self.assertIs(caught.exception, error)
                    self.check(yard, plain)
                number = plain.state[3]
                plain.bring(1)
                self.assertEqual(yard.bring(1), number)
                self.check(yard, plain)

    def test_within_one_another(self):
        yard = Yard(least_table(2, 2), [1, 0])
        yard.bring(0)

        def outer(passed):
            passed.bring(1)
            self.assertEqual(passed.within(lambda inner: (inner.blend([0, 1]), inner.vats(), len(inner))), ((2, 3), (2, 3), 2 + 1))
            self.assertEqual((passed.vats(), len(passed)), ((0, 1), 2))
            self.assertIs(passed.undo(), True)
            return passed.bring(0), len(passed)

        self.assertEqual(yard.within(outer), (1, 2))
        self.assertEqual((yard.vats(), len(yard)), ((0,), 1))
        self.assertIs(yard.undo(), True)
        self.assertIs(yard.undo(), False)

    def test_relabel(self):
        for k in SIZES:
            yard = Yard(first_table(k, 2), [1, 0])
            for i in (0, 1) + (1,) * (k - 2):
                yard.bring(i)
            vats = yard.blend(list(range(k)))
            self.assertEqual({yard.label(vat) for vat in vats}, {1})
            self.assertEqual(yard.groups(), (vats,))
            last = Table(k, 3, [2] * 3 ** k)
            names = [0, 1]
            self.assertIsNone(yard.relabel(table=last, naming=names))
            names[0] = 7
            self.assertEqual((yard.table, yard.naming, yard.label(vats[0]), len(yard)), (last, (0, 1), 2, k + 2))
            self.assertEqual(yard.bring(ingredient=0), 2 * k)
            self.assertEqual(yard.label(2 * k), 0)
            self.assertIs(yard.undo(), True)
            self.assertIs(yard.undo(), True)
            self.assertEqual((yard.table, yard.naming, yard.label(vats[0])), (first_table(k, 2), (1, 0), 1))
            self.assertIs(yard.undo(), True)
            self.assertEqual(yard.vats(), tuple(range(k)))

    def test_great_recipes(self):
        # Recipes with far more than 2000 ingredients, and deeper than 12.
        for k in SIZES:
            yard = Yard(least_table(k, 2), [1, 0])
            vats = [yard.bring(int(i == 0)) for i in range(k)]
            for _ in range(300):
                vats = yard.blend(vats)
            self.assertEqual([yard.label(vat) for vat in vats], [0] * k)
            self.assertEqual(yard.mixture(vats[0]), (1, (k - 1, 1)))
            self.assertEqual(yard.stock(), ((k - 1, 1), (1, 1)))
            recipe = yard.recipe(vats[0])
            for _ in range(300):
                recipe = recipe[0]
            self.assertEqual(recipe, 1)
            for at in range(300):
                yard.bring(0)
                vats = yard.blend((vats[0],) + tuple(yard.bring(0) for _ in range(k - 1)))
            n, counts = yard.mixture(vats[0])
            self.assertEqual((n, counts), (301, (k ** 301 - 1, 1)))
            self.assertIsNone(yard.relabel(first_table(k, 3), (2, 1)))
            self.assertEqual(yard.label(vats[0]), 1)
            while yard.undo():
                pass
            self.assertEqual((yard.vats(), len(yard), yard.stock()), ((), 0, ((0, 1), (0, 1))))

    def test_many_deeds(self):
        rnd = generator(4)
        yard = Yard(random_table(rnd, 5, 3), [0, 1, 2])
        for _ in range(1000):
            yard.bring(rnd.randrange(3))
        for _ in range(1000):
            yard.blend(rnd.sample(yard.vats(), 5))
        self.assertEqual(len(yard), 2000)
        stock = yard.stock()
        self.assertEqual(sum(Fraction(*share) for share in stock), 1000)
        self.assertEqual(yard.within(lambda passed: passed.blend(passed.vats()[:5]))[0], 6000)
        while yard.undo():
            pass
        self.assertEqual(yard.vats(), ())


class RefusedTest(unittest.TestCase):
    def ready(self, k):
        yard = Yard(least_table(k, 3), (2, 0, 1))
        for i in (0, 1, 2, 0, 1, 2):
            yard.bring(i)
        yard.pour(5)
        self.assertEqual(yard.blend(tuple(range(k))), tuple(range(6, 6 + k)))
        return yard

    def shown(self, yard):
        vats = yard.vats()
        return (yard.table, yard.naming, vats, len(yard), [yard.label(vat) for vat in vats], [yard.mixture(vat) for vat in vats],
                [yard.recipe(vat) for vat in vats], yard.stock(), yard.groups(), yard.unlike())

    def test_namings(self):
        for value in NO_SEQUENCES + ([], (), [0] * 13):
            self.assertEqual(error_of(Yard, least_table(2, 3), value), ("InvalidNaming", 12), value)
        for value in ODD + (3,):
            if value not in (0, 1, 2) or isinstance(value, (bool, float)):
                self.assertEqual(error_of(Yard, least_table(2, 3), [0, value, None]), ("InvalidNaming", 1), value)
        naming = [0, 1, 2]
        yard = Yard(least_table(2, 3), naming)
        naming[0] = 5
        self.assertEqual((yard.naming, yard.table, len(yard), yard.vats()), ((0, 1, 2), least_table(2, 3), 0, ()))

    def test_vats_that_are_not_there(self):
        for k in SIZES:
            yard = self.ready(k)
            before = self.shown(yard)
            there = yard.vats()
            for value in ODD + (3 if k > 3 else 0, 5, 6 + k, 10 ** 20, list(there), there):
                if value not in there or isinstance(value, (bool, float)):
                    for work in (yard.label, yard.mixture, yard.recipe, yard.pour):
                        self.assertEqual(error_of(work, value), ("Refused", 0), value)
                    cups = list(there[:k - 1])
                    for at in range(k):
                        told = error_of(yard.blend, cups[:at] + [value] + cups[at:])
                        self.assertEqual(told, ("Refused", at), value)
                        told = error_of(yard.blend, tuple(cups[:at]) + (value,) + (None,) * (k - 1 - at))
                        self.assertEqual(told, ("Refused", at), value)
            self.assertEqual(self.shown(yard), before)

    def test_blends(self):
        for k in SIZES:
            yard = self.ready(k)
            before = self.shown(yard)
            there = list(yard.vats())
            for at in range(1, k):
                self.assertEqual(error_of(yard.blend, there[:at] + [there[0]] + there[at:k - 1]), ("Refused", at))
                self.assertEqual(error_of(yard.blend, there[:at] + [there[at - 1]] + [None] * (k - 1 - at)), ("Refused", at))
            for value in NO_SEQUENCES + ([], there[:k - 1], (there + there)[:k + 1], [None] * (k + 1), (there[0],) * (k - 1), range(k)):
                self.assertEqual(error_of(yard.blend, value), ("Refused", k), value)
            self.assertEqual(self.shown(yard), before)

    def test_ingredients(self):
        for k in SIZES:
            yard = self.ready(k)
            before = self.shown(yard)
            for value in ODD + (3, 12):
                if value not in (0, 1, 2) or isinstance(value, (bool, float)):
                    self.assertEqual(error_of(yard.bring, value), ("Refused", 0), value)
            self.assertEqual(self.shown(yard), before)

    def test_relabels(self):
        for k in SIZES:
            yard = self.ready(k)
            before = self.shown(yard)
            other = least_table(5 if k == 2 else 2, 3)
            for table in (least_table(k, 2), least_table(other.k, 2)):
                for value in NO_SEQUENCES + ([], (), [0] * 13):
                    self.assertEqual(error_of(yard.relabel, table, value), ("InvalidNaming", 12), value)
                for value in (None, 2, -1, True, (0,)):
                    self.assertEqual(error_of(yard.relabel, table, [1, value, 0]), ("InvalidNaming", 1), value)
            self.assertEqual(error_of(yard.relabel, other, [0, 1, 2]), ("Refused", 0))
            for naming in ([0, 1], [0], [0, 1, 2, 0]):
                self.assertEqual(error_of(yard.relabel, least_table(k, 3), naming), ("Refused", 0))
            self.assertEqual(self.shown(yard), before)

    def test_passed_lists(self):
        yard = Yard(least_table(2, 2), [0, 1])
        cups = [yard.bring(0), yard.bring(1)]
        yard.blend(vats=cups)
        cups[0] = 1
        self.assertEqual(cups, [1, 1])
        self.assertEqual(yard.recipe(vat=2), (0, 1))
        self.assertIs(yard.undo(), True)
        self.assertEqual(yard.vats(), (0, 1))

    def test_other_values(self):
        yard, other = Yard(least_table(2, 2), [0]), Yard(least_table(2, 2), [0])
        for value in ODD + (other, least_table(2, 2), deep_value(10)):
            self.assertFalse(yard == value)
            self.assertTrue(yard != value)


if __name__ == "__main__":
    unittest.main()
