"""Points 66 and 67: markings, the finest book, and told cells."""

import itertools
import math
import unittest

from mixlabels.faults import fault
from mixlabels.finest import class_count, finest_book, first_alike, needless, sure_form
from mixlabels.following import sure_alike
from mixlabels.hints import cells_told, same_labels, sure_result
from mixlabels.likenesses import Likenesses, book_label, broken, sealed_sets, sealing
from mixlabels.markings import is_marking, least_marking, marked, marking_book, marks_apart
from mixlabels.mixtures import contained, counts_at, is_mixture, made_mixture
from tests.faithful import drawn_faithful
from tests.helpers import (
    NO_SEQUENCES, ODD, SIZES, all_mixtures, all_rows, deep_value, error_of, generator, moduli_of, most_labels,
)
from tests.test_likenesses import DEEPEST, drawn_mixture, drawn_question, drawn_told


def plain_mark(k, marking, mixture):
    within, modulus, values = marking
    n, counts = mixture
    if not set(contained(mixture)) <= set(within):
        return None
    total = sum(counts[i] * value for i, value in zip(within, values))
    return next(r for r in range(modulus) if (r * k ** n - total) % modulus == 0)


def plainly_apart(told, one, other, marking):
    pairs = [[plain_mark(told.k, marking, mixture) for mixture in pair] for pair in told.pairs + ((one, other),)]
    return all(a == b for a, b in pairs[:-1]) and pairs[-1][0] != pairs[-1][1]


def all_markings(ingredients, modulus):
    for many in range(1, ingredients + 1):
        for within in itertools.combinations(range(ingredients), many):
            for values in itertools.product(range(modulus), repeat=many):
                yield within, modulus, values


def drawn_marking(rnd, k, ingredients, most=30):
    within = tuple(sorted(rnd.sample(range(ingredients), rnd.randrange(1, ingredients + 1))))
    modulus = rnd.choice(moduli_of(k, most))
    return within, modulus, tuple(rnd.randrange(modulus) for _ in within)


def plain_form(told, some):
    """The rank and the orders by the greatest common divisors of all minors of one size."""
    pairs = [pair for pair in told.pairs if set(contained(pair[0])) <= set(some)]
    n = max([mixture[0] for pair in pairs for mixture in pair], default=0)
    rows = [[a - b for a, b in zip(*(counts_at(told.k, mixture, n) for mixture in pair))] for pair in pairs]
    rows = [[row[i] for i in some[1:]] for row in rows]
    wide = len(some) - 1
    orders, before = [], 1
    for many in range(1, min(wide, len(rows)) + 1):
        both = 0
        for chosen in itertools.combinations(rows, many):
            for places in itertools.combinations(range(wide), many):
                both = math.gcd(both, determinant([[row[i] for i in places] for row in chosen]))
        if both == 0:
            break
        orders.append(both // before)
        before = both
    rank = wide - len(orders)
    while any(math.gcd(order, told.k) > 1 for order in orders):
        orders = [order // math.gcd(order, told.k) for order in orders]
    return rank, tuple(order for order in orders if order > 1)


def determinant(rows):
    if not rows:
        return 1
    return sum((-1) ** c * rows[0][c] * determinant([row[:c] + row[c + 1:] for row in rows[1:]]) for c in range(len(rows)))


# Told pairs with a finest book in which several sealed sets have more than one class.
SEVERAL = (
    (3, 3, [((0, (1, 0, 0)), (1, (2, 0, 1))), ((2, (0, 4, 5)), (0, (0, 0, 1)))], 9),
    (2, 3, [((3, (0, 5, 3)), (0, (0, 0, 1))), ((1, (1, 0, 1)), (0, (1, 0, 0)))], 11),
    (2, 4, [((2, (0, 0, 3, 1)), (0, (0, 0, 0, 1))), ((1, (1, 1, 0, 0)), (2, (0, 2, 1, 1))), ((1, (0, 1, 1, 0)), (0, (1, 0, 0, 0)))], 8),
    (2, 4, [((2, (0, 0, 3, 1)), (0, (0, 0, 0, 1))), ((1, (0, 1, 1, 0)), (0, (0, 1, 0, 0))), ((0, (1, 0, 0, 0)), (2, (2, 1, 0, 1)))], 11),
    (3, 4, [((1, (1, 1, 0, 1)), (0, (1, 0, 0, 0))), ((1, (0, 1, 2, 0)), (0, (0, 1, 0, 0))), ((1, (1, 1, 0, 1)), (2, (2, 4, 2, 1))),
            ((0, (0, 0, 0, 1)), (3, (11, 7, 5, 4)))], 8),
    (4, 2, [((0, (0, 1)), (1, (3, 1)))], 4), (5, 2, [((0, (0, 1)), (1, (2, 3)))], 3), (5, 2, [((1, (3, 2)), (0, (1, 0)))], 3),
)


def two_alike(k, n, order):
    """Two mixtures of two ingredients, told to be alike, whose shares differ by order / k ** n."""
    return Likenesses(k, 2, [((n, (1, k ** n - 1)), made_mixture(k, n, (1 + order, k ** n - 1 - order)))])


class MarkingTest(unittest.TestCase):
    def test_marks(self):
        rnd = generator(1)
        for k in SIZES:
            for _ in range(150):
                m = rnd.randrange(1, 6)
                marking, mixture = drawn_marking(rnd, k, m), drawn_mixture(rnd, k, m)
                self.assertIs(is_marking(k=k, ingredients=m, value=marking), True)
                self.assertEqual(marked(k=k, marking=marking, mixture=mixture), plain_mark(k, marking, mixture))

    def test_any_marking(self):
        for k in SIZES:
            d = k + 1
            good = ((0, 2), d, (1, 0))
            self.assertIs(is_marking(k, 3, good), True)
            self.assertIs(is_marking(k, 3, ((0, 1, 2), 1, (0, 0, 0))), True)
            greatest = 10 ** 6 if k == 3 else 999999
            self.assertIs(is_marking(k, 3, ((2,), greatest, (greatest - 1,))), True)
            for value in ODD + (
                list(good), good[:2], good + (0,), ([0, 2], d, (1, 0)), ((0, 2), d, [1, 0]), ((), d, ()), ((2, 0), d, (1, 0)),
                ((0, 0), d, (1, 0)), ((0, 3), d, (1, 0)), ((-1, 0), d, (1, 0)), ((0, True), d, (1, 0)), ((0, None), d, (1, 0)),
                (0, d, (1,)), ((0, 2), k, (1, 0)), ((0, 2), 0, (0, 0)), ((0, 2), -1, (0, 0)), ((0, 2), True, (0, 0)),
                ((0, 2), 10 ** 6 + 3, (1, 0)), ((0, 2), None, (1, 0)), ((0, 2), d, (1,)), ((0, 2), d, (1, 0, 0)),
                ((0, 2), d, (1, d)), ((0, 2), d, (-1, 0)), ((0, 2), d, (True, 0)), ((0, 2), d, (1, None)), ((0, 2), d, None),
                ((0, 2), d, 1), ((0, 2), d, "10"), (None, d, (1, 0)), deep_value(60), ((0, 2), 1.0, (0, 0)), ("02", d, (1, 0)),
                ((0, 2), d, ((1,), 0)), ((0, 2), 2 * k, (1, 0)),
            ):
                self.assertIs(is_marking(k, 3, value), False, value)

    def test_marking_books(self):
        rnd = generator(2)
        for k in SIZES:
            for modulus in moduli_of(k, 14):
                within, values = (0, 2), (rnd.randrange(modulus), rnd.randrange(modulus))
                if modulus + 1 > most_labels(k):
                    told = error_of(marking_book, k, 3, (within, modulus, values))
                    self.assertEqual(told, ("Refused", 0))
                    continue
                table, naming = marking_book(k=k, ingredients=3, marking=(within, modulus, values))
                self.assertEqual((table.k, table.labels, naming), (k, modulus + 1, (values[0], modulus, values[1])))
                self.assertIsNone(fault(table))
                for mixture in all_mixtures(k, 3, 2 if k < 4 else 1):
                    mark = plain_mark(k, (within, modulus, values), mixture)
                    self.assertEqual(book_label(table, naming, mixture), modulus if mark is None else mark)
            self.assertEqual(error_of(marking_book, k, 5, ((0,), 10 ** 6 - 1 if k != 3 else 10 ** 6, (3,))), ("Refused", 0))

    def test_marks_apart(self):
        rnd = generator(3)
        for k in SIZES:
            kinds = {True: 0, False: 0}
            for _ in range(300):
                told, one, other = drawn_question(rnd, k)
                marking = drawn_marking(rnd, k, told.ingredients, 6)
                if rnd.random() < 0.5 and not sure_alike(told, one, other):
                    within, modulus, values = least_marking(told, one, other)
                    kind = rnd.randrange(4)
                    at = rnd.randrange(len(values))
                    if kind == 0:
                        values = values[:at] + ((values[at] + 1) % modulus,) + values[at + 1:]
                    elif kind == 1:
                        within, values = within[:at] + within[at + 1:], values[:at] + values[at + 1:]
                    elif kind == 2:
                        values = tuple((value + 1) % modulus for value in values)
                    marking = within, modulus, values
                    if not within:
                        self.assertIs(marks_apart(told, one, other, marking), False)
                        continue
                wanted = plainly_apart(told, one, other, marking)
                kinds[wanted] += 1
                self.assertIs(marks_apart(told=told, one=one, other=other, value=marking), wanted)
            self.assertGreater(min(kinds.values()), 20)
            told = Likenesses(k, 2, [])
            for value in ODD + (((0, 1), k, (0, 1)), ((0, 1), k + 1, (0, 0)), ((0, 1), k + 1, [0, 1]), ((0, 1, 2), k + 1, (0, 1, 0))):
                self.assertIs(marks_apart(told, (0, (1, 0)), (0, (0, 1)), value), False, value)
            self.assertIs(marks_apart(told, (0, (1, 0)), (0, (0, 1)), ((0, 1), k + 1, (0, 1))), True)

    def test_least(self):
        rnd = generator(4)
        for k in SIZES:
            moduli = set()
            for _ in range(120):
                told, one, other = drawn_question(rnd, k)
                if not sure_alike(told, one, other):
                    found = least_marking(told=told, one=one, other=other)
                    self.assertTrue(plainly_apart(told, one, other, found))
                    self.assertIs(is_marking(k, told.ingredients, found), True)
                    moduli.add(found[1])
                    for modulus in moduli_of(k, min(found[1] - 1, 7)):
                        if modulus ** told.ingredients < 300:
                            for marking in all_markings(told.ingredients, modulus):
                                self.assertFalse(plainly_apart(told, one, other, marking))
            self.assertGreater(len(moduli), 2)

    def test_one_ingredient_more(self):
        for k in SIZES:
            told = Likenesses(k, 3, [((0, (1, 0, 0)), (1, (k - 1, 1, 0)))])
            pure, other = (0, (1, 0, 0)), (0, (0, 1, 0))
            self.assertEqual(least_marking(told, pure, other)[1], 1)
            self.assertEqual(least_marking(told, other, pure)[1], 1)
            self.assertEqual(least_marking(told, (0, (0, 0, 1)), pure)[1], 1)
            free = Likenesses(k, 2, [])
            mixtures = (1, (1, k - 1)), (2, (1, k * k - 1))
            self.assertEqual(least_marking(free, *mixtures)[1], next(d for d in moduli_of(k, 30) if (k - 1) % d))

    def test_great_moduli(self):
        # The pairs make all mixtures of two ingredients alike that differ by a multiple of a prime number.
        for k, n, prime in ((2, 4, 13), (3, 3, 23), (4, 2, 13), (5, 2, 23)):
            told = Likenesses(k, 2, [((0, (1, 0)), (n, (k ** n - prime, prime))), ((0, (0, 1)), (n, (prime, k ** n - prime)))])
            one, other = (n, (1, k ** n - 1)), made_mixture(k, n, (2, k ** n - 2))
            self.assertEqual(least_marking(told, one, other)[1], prime)
            self.assertTrue(plainly_apart(told, one, other, least_marking(told, one, other)))
        told = Likenesses(5, 5, [
            ((2, (5, 5, 4, 6, 5)), (0, (0, 0, 1, 0, 0))), ((2, (3, 0, 5, 6, 11)), (0, (0, 1, 0, 0, 0))),
            ((2, (8, 0, 0, 8, 9)), (1, (0, 0, 1, 4, 0))), ((0, (1, 0, 0, 0, 0)), (2, (5, 8, 5, 7, 0))),
        ])
        one, other = (1, (1, 0, 2, 0, 2)), (1, (1, 0, 3, 1, 0))
        found = least_marking(told, one, other)
        self.assertEqual(found[1], 6779)
        self.assertTrue(plainly_apart(told, one, other, found))


class FinestTest(unittest.TestCase):
    def test_forms_by_markings(self):
        rnd = generator(5)
        for k in SIZES:
            for _ in range(60):
                told = drawn_told(rnd, k)
                for some in sealed_sets(told):
                    rank, orders = sure_form(told=told, some=some)
                    self.assertTrue(all(order > 1 and math.gcd(order, k) == 1 for order in orders))
                    self.assertTrue(all(later % order == 0 for order, later in zip(orders, orders[1:])))
                    self.assertLessEqual(rank + len(orders), len(some) - 1)
                    for d in moduli_of(k, 9):
                        if d ** len(some) < 2000:
                            self.check_markings(told, some, d, d ** rank * math.prod(math.gcd(order, d) for order in orders))

    def test_forms_by_minors(self):
        rnd = generator(9)
        for k in SIZES:
            for _ in range(40):
                told = drawn_told(rnd, k)
                for some in sealed_sets(told):
                    self.assertEqual(sure_form(told, some), plain_form(told, some))
            shown = set()
            for _ in range(60):
                # Each further ingredient is exchanged for the first one, so many parts of it at once.
                m = rnd.randrange(3, 6)
                n = DEEPEST[k]
                pairs = []
                for i in range(1, m):
                    many = rnd.randrange(1, k ** n)
                    counts = [k ** n - many] + [many if j == i else 0 for j in range(1, m)]
                    pairs.append([made_mixture(k, n, counts), (0, (1,) + (0,) * (m - 1))])
                told = Likenesses(k, m, pairs)
                form = sure_form(told, tuple(range(m)))
                self.assertEqual(form, plain_form(told, tuple(range(m))))
                shown.add(len(form[1]))
            self.assertGreater(len(shown), 1)

    def test_orders_divide_one_another(self):
        pure = (0, (1, 0, 0))
        told = Likenesses(5, 3, [((1, (3, 2, 0)), pure), ((1, (2, 0, 3)), pure)])
        self.assertEqual(sure_form(told, (0, 1, 2)), (0, (6,)))
        told = Likenesses(5, 3, [((1, (1, 4, 0)), pure), ((2, (19, 0, 6)), pure)])
        self.assertEqual(sure_form(told, (0, 1, 2)), (0, (2, 12)))
        told = Likenesses(2, 3, [((4, (13, 3, 0)), pure), ((4, (1, 0, 15)), pure)])
        self.assertEqual(sure_form(told, (0, 1, 2)), (0, (3, 15)))
        told = Likenesses(2, 3, [((4, (11, 5, 0)), pure), ((4, (13, 0, 3)), pure)])
        self.assertEqual(sure_form(told, (0, 1, 2)), (0, (15,)))

    def check_markings(self, told, some, d, wanted):
        """As many markings of the set give told pairs one mark, the first value being 0, as the form has maps."""
        pairs = [pair for pair in told.pairs if set(contained(pair[0])) <= set(some)]
        rows = [[sum(count * pow(told.k, -n, d) * sign for (n, counts), sign in zip(pair, (1, -1))
                     for count in [counts[i]]) % d for i in some] for pair in pairs]
        many = 0
        for values in itertools.product(range(d), repeat=len(some) - 1):
            many += all(sum(a * b for a, b in zip(row[1:], values)) % d == 0 for row in rows)
        self.assertEqual(many, wanted)

    def test_any_set(self):
        told = Likenesses(2, 3, [((0, (1, 0, 0)), (1, (1, 1, 0)))])
        self.assertEqual(sealed_sets(told), ((0, 1), (0, 1, 2), (1,), (1, 2), (2,)))
        self.assertEqual(sure_form(told, (0, 1)), (0, ()))
        self.assertEqual(sure_form(told, (0, 1, 2)), (1, ()))
        self.assertEqual(sure_form(told, (1,)), (0, ()))
        for value in ODD + ([0, 1], (0,), (0, 2), (1, 0), (0, 0, 1), (0, 1, 3), (True, 2), (0, 1, None), "01", deep_value(30), (-1, 0)):
            self.assertEqual(error_of(sure_form, told, value), ("Refused", 0), value)

    def test_counts_and_books(self):
        rnd = generator(6)
        seen = set()
        for k in SIZES:
            kinds = {}
            for _ in range(150):
                told = drawn_told(rnd, k, deepest=rnd.choice((1, 1, 2)))
                forms = [sure_form(told, some) for some in sealed_sets(told)]
                wanted = None if any(rank for rank, _ in forms) else sum(math.prod(orders) for _, orders in forms)
                self.assertEqual(class_count(told=told), wanted)
                if wanted is None:
                    kind = ("Refused", 0)
                    self.assertEqual(error_of(finest_book, told), kind)
                elif wanted > most_labels(k):
                    kind = ("Refused", 1)
                    self.assertEqual(error_of(finest_book, told), kind)
                else:
                    kind = None
                    self.check_book(told, wanted, *finest_book(told=told))
                kinds[kind] = kinds.get(kind, 0) + 1
            self.assertGreater(len(kinds), 1)
            seen |= set(kinds)
        self.assertEqual(len(seen), 3)

    def check_book(self, told, many, table, naming):
        self.assertEqual((table.k, table.labels, len(naming)), (told.k, many, told.ingredients))
        self.assertIsInstance(naming, tuple)
        self.assertIsNone(fault(table))
        self.assertIsNone(broken(told, table, naming))
        found = {}
        for mixture in all_mixtures(told.k, told.ingredients, 2 if told.ingredients < 4 and told.k < 4 else 1):
            label = book_label(table, naming, mixture)
            self.assertIs(sure_alike(told, mixture, found.setdefault(label, mixture)), True)
        for one, other in itertools.combinations(found.values(), 2):
            self.assertIs(sure_alike(told, one, other), False)

    def test_books_of_several_sealed_sets(self):
        for k, m, pairs, many in SEVERAL:
            told = Likenesses(k, m, pairs)
            self.assertEqual(class_count(told), many)
            self.check_book(told, many, *finest_book(told))

    def test_all_classes_have_mixtures(self):
        for k in SIZES:
            d = k + 1 if k != 5 else 2
            n = DEEPEST[k]
            told = two_alike(k, n, d)
            self.assertEqual(sure_form(told, (0, 1)), (0, (d,)))
            self.assertEqual(class_count(told), d + 2)
            if d + 2 <= most_labels(k):
                table, naming = finest_book(told)
                labels = {book_label(table, naming, mixture) for mixture in all_mixtures(k, 2, n)}
                self.assertEqual(labels, set(range(d + 2)))

    def test_just_enough_labels(self):
        # One label for each ingredient alone, and as many as the order for both together.
        for k, most in ((2, 12), (3, 9), (4, 5), (5, 3)):
            for many in (most, most + 1, most + 2):
                order = many - 2
                n = DEEPEST[k]
                if math.gcd(order, k) == 1:
                    told = two_alike(k, n, order)
                    self.assertEqual(class_count(told), many)
                    if many <= most:
                        self.check_book(told, many, *finest_book(told))
                    else:
                        self.assertEqual(error_of(finest_book, told), ("Refused", 1))
        told = Likenesses(2, 3, [((0, (1, 0, 0)), (0, (0, 1, 0))), ((0, (1, 0, 0)), (0, (0, 0, 1)))])
        self.check_book(told, 1, *finest_book(told))
        self.check_book(Likenesses(2, 1, []), 1, *finest_book(Likenesses(2, 1, [])))

    def test_first_alike(self):
        rnd = generator(7)
        for k in SIZES:
            changed = 0
            for _ in range(40):
                told = drawn_told(rnd, k, rnd.randrange(1, 4))
                mixture = drawn_mixture(rnd, k, told.ingredients, {2: 3, 3: 2, 4: 1, 5: 1}[k])
                found = first_alike(told=told, mixture=mixture)
                mixtures = [(n, row) for n in range(mixture[0] + 1) for row in all_rows(k ** n, told.ingredients)]
                mixtures = [other for other in mixtures if is_mixture(k, told.ingredients, other)]
                self.assertEqual(found, next(other for other in mixtures if sure_alike(told, other, mixture)))
                changed += found != mixture
            self.assertGreater(changed, 0)
        told = drawn_told(rnd, 2, 5)
        for mixture in ((3, (1, 2, 2, 2, 1)), (3, (7, 1, 0, 0, 0)), (0, (0, 0, 0, 0, 1))):
            self.assertIs(sure_alike(told, first_alike(told, mixture), mixture), True)

    def test_needless(self):
        rnd = generator(8)
        for k in SIZES:
            kinds = set()
            for _ in range(60):
                told = drawn_told(rnd, k)
                wanted = []
                for at, (one, other) in enumerate(told.pairs):
                    others = Likenesses(k, told.ingredients, told.pairs[:at] + told.pairs[at + 1:])
                    if sure_alike(others, one, other):
                        wanted.append(at)
                self.assertEqual(needless(told=told), tuple(wanted))
                kinds.add(len(wanted))
            self.assertGreater(len(kinds), 2)
        self.assertEqual(needless(Likenesses(2, 2, [])), ())
        self.assertEqual(needless(Likenesses(2, 2, [((0, (1, 0)), (0, (0, 1)))] * 2)), (0, 1))
        self.assertEqual(needless(Likenesses(2, 2, [((0, (1, 0)), (0, (0, 1))), ((0, (1, 0)), (0, (1, 0)))])), (1,))


def cells_of(table, some):
    return [(cups, table.blend(cups)) for cups in some]


class HintsTest(unittest.TestCase):
    def test_cells_of_tables(self):
        rnd = generator(9)
        for k in SIZES:
            sure = 0
            for _ in range(60):
                table = drawn_faithful(rnd, k)
                if table.labels > 5:
                    continue
                cups = list(itertools.product(range(table.labels), repeat=k))
                some = rnd.sample(cups, min(len(cups), rnd.randrange(8)))
                told = cells_told(k=k, labels=table.labels, cells=cells_of(table, some))
                pure = [(0, tuple(int(i == j) for j in range(table.labels))) for i in range(table.labels)]
                blends = [(made_mixture(k, 1, [row.count(i) for i in range(table.labels)]), pure[table.blend(row)]) for row in some]
                self.assertEqual(told, Likenesses(k, table.labels, blends))
                self.assertEqual(same_labels(told=told), ())
                for row in rnd.sample(cups, min(len(cups), 12)) + some:
                    mixture = made_mixture(k, 1, [row.count(i) for i in range(table.labels)])
                    alike = [label for label in range(table.labels) if sure_alike(told, mixture, pure[label])]
                    found = sure_result(told=told, cups=list(row))
                    self.assertEqual(found, alike[0] if alike else None)
                    if found is not None:
                        sure += 1
                        self.assertEqual(found, table.blend(row))
            self.assertGreater(sure, 20)

    def test_any_cells(self):
        rnd = generator(10)
        for k in SIZES:
            kinds = set()
            for _ in range(60):
                labels = rnd.randrange(1, 6)
                cells = [([rnd.randrange(labels) for _ in range(k)], rnd.randrange(labels)) for _ in range(rnd.randrange(6))]
                told = cells_told(k, labels, cells)
                pure = [(0, tuple(int(i == j) for j in range(labels))) for i in range(labels)]
                lots = {tuple(j for j in range(labels) if sure_alike(told, pure[i], pure[j])) for i in range(labels)}
                wanted = tuple(sorted(lot for lot in lots if len(lot) > 1))
                self.assertEqual(same_labels(told), wanted)
                kinds.add(bool(wanted))
                if not wanted and error_of(finest_book, told) is None:
                    self.check_fact(told, cells)
            self.assertEqual(kinds, {True, False})

    def check_fact(self, told, cells):
        table, naming = finest_book(told)
        self.assertEqual(len(set(naming)), told.ingredients)
        for cups, label in cells:
            self.assertEqual(table.blend([naming[cup] for cup in cups]), naming[label])
        for cups in itertools.product(range(told.ingredients), repeat=told.k):
            found = sure_result(told, cups)
            blend = table.blend([naming[cup] for cup in cups])
            self.assertEqual(blend in naming, found is not None)
            if found is not None:
                self.assertEqual(blend, naming[found])

    def test_edges(self):
        for k in SIZES:
            one = cells_told(k, 1, [])
            self.assertEqual((sure_result(one, (0,) * k), same_labels(one), class_count(one)), (0, (), 1))
            five = cells_told(k, 5, [((0, 1) + (2,) * (k - 2), 4)])
            self.assertEqual(sure_result(five, (1, 0) + (2,) * (k - 2)), 4)
            self.assertIsNone(sure_result(five, (1, 3) + (2,) * (k - 2)))
            self.assertEqual(sure_result(five, (3,) * k), 3)
            # A blend of like cups that is told to be another label: both are alike.
            like = cells_told(k, 3, [((0,) * k, 2), ((2,) * k, 0)])
            self.assertEqual((same_labels(like), sure_result(like, (2,) * k)), (((0, 2),), 0))

    def test_errors(self):
        good = ((0, 1), 1)
        for value in ODD + (6, 1, 0):
            self.assertEqual(error_of(cells_told, value, None, None), ("InvalidBowl", 0), value)
        for k in SIZES:
            for value in ODD + (6, 0, 12):
                self.assertEqual(error_of(cells_told, k, value, None), ("InvalidQuestion", 1), value)
            for value in NO_SEQUENCES:
                self.assertEqual(error_of(cells_told, k, 2, value), ("InvalidPair", 0), value)
            cups = (0, 1) + (0,) * (k - 2)
            good = (cups, 1)
            for value in ODD + (
                (cups,), (cups, 1, 1), (1, cups), (cups, 2), (cups, -1), (cups, True), (cups, None), (cups, (1,)), (cups[1:], 1),
                (cups + (0,), 1), ((2,) + cups[1:], 1), ((None,) + cups[1:], 1), ((True,) + cups[1:], 1), (None, 1), ("01", 1),
                cups, deep_value(40), ({0: 0}, 1),
            ):
                if not (k == 2 and value == ((0, 1), 1)):
                    self.assertEqual(error_of(cells_told, k, 2, [good, value, None]), ("InvalidPair", 1), value)
                    self.assertEqual(error_of(cells_told, k, 2, (value,)), ("InvalidPair", 0), value)
            cells = [[list(cups), 1]]
            told = cells_told(k, 2, cells)
            cells[0][0][0] = cells[0][1] = 0
            self.assertEqual(told, cells_told(k, 2, ((cups, 1),)))


if __name__ == "__main__":
    unittest.main()
