"""Points 62 to 65: told likenesses, what follows from them, and exchanges."""

import itertools
import unittest
from fractions import Fraction

from mixlabels.exchanges import exchanged, is_passage, passage
from mixlabels.following import is_multipliers, multipliers, sure_alike
from mixlabels.likenesses import Likenesses, book_label, broken, sealed_sets, sealing
from mixlabels.markings import least_marking, marks_apart
from mixlabels.mixtures import contained, is_mixture, made_mixture
from mixlabels.tasting import label_of
from mixlabels.leaves import recipe_of
from tests.faithful import drawn_faithful
from tests.helpers import NO_SEQUENCES, ODD, SIZES, deep_value, error_of, generator

DEEPEST = {2: 4, 3: 3, 4: 2, 5: 2}


def drawn_mixture(rnd, k, ingredients, deepest=None):
    n = rnd.randrange((DEEPEST[k] if deepest is None else deepest) + 1)
    some = rnd.sample(range(ingredients), rnd.randrange(1, ingredients + 1))
    counts = [0] * ingredients
    for _ in range(k ** n):
        counts[rnd.choice(some)] += 1
    return made_mixture(k, n, counts)


def drawn_told(rnd, k, ingredients=None, deepest=None):
    m = ingredients or rnd.randrange(1, 6)
    many = rnd.choice((0, 1, 1, 2, 2, 3, 4, 10))
    return Likenesses(k, m, [[drawn_mixture(rnd, k, m, deepest) for _ in range(2)] for _ in range(many)])


def drawn_question(rnd, k):
    """Told pairs and two mixtures, that are often sure alike."""
    told = drawn_told(rnd, k)
    one, other = (drawn_mixture(rnd, k, told.ingredients) for _ in range(2))
    if told.pairs and rnd.random() < 0.3:
        one, other = rnd.choice(told.pairs)[::rnd.choice((1, -1))]
    return told, one, other


def shares(k, mixture):
    return [Fraction(count, k ** mixture[0]) for count in mixture[1]]


def plainly_sealed(told, some):
    within = [[set(contained(mixture)) <= set(some) for mixture in pair] for pair in told.pairs]
    return all(one == other for one, other in within)


def plain_sealed_sets(told):
    names = range(told.ingredients)
    lots = [some for many in range(1, told.ingredients + 1) for some in itertools.combinations(names, many)]
    return tuple(sorted(some for some in lots if plainly_sealed(told, some)))


def plainly_exchanged(told, amounts, exchange):
    """The shares behind an exchange, or None."""
    at, way, deep, times = exchange
    part = Fraction(1, told.k ** deep)
    takes, puts = (shares(told.k, told.pairs[at][side]) for side in (way, 1 - way))
    found = list(amounts)
    for i, (take, put) in enumerate(zip(takes, puts)):
        rows = [found[i], found[i] + (times - 1) * part * (put - take)]
        if times <= 20:
            rows = [found[i] + number * part * (put - take) for number in range(times)]
        if min(rows) < part * take:
            return None
        found[i] += times * part * (put - take)
    return found


def plainly_walked(told, amounts, exchanges):
    for exchange in exchanges:
        if amounts is not None:
            amounts = plainly_exchanged(told, amounts, exchange)
    return amounts


def plainly_passage(told, one, other, value):
    head, rounds, turn, tail = value
    amounts = plainly_walked(told, shares(told.k, one), head)
    if amounts is not None and rounds <= 20:
        amounts = plainly_walked(told, amounts, turn * rounds)
    elif amounts is not None:
        first = plainly_walked(told, amounts, turn)
        if first is None:
            return False
        # Each round changes the same, so no amount is less than at both ends.
        amounts = [amount + (rounds - 1) * (behind - amount) for amount, behind in zip(amounts, first)]
        amounts = plainly_walked(told, amounts, turn) if min(amounts) >= 0 else None
    amounts = plainly_walked(told, amounts, tail)
    return amounts == shares(told.k, other)


class LikenessesTest(unittest.TestCase):
    def test_attributes(self):
        for k in SIZES:
            pairs = [[(0, (1, 0)), (1, (1, k - 1))], ((0, (0, 1)), (0, (0, 1)))]
            told = Likenesses(k=k, ingredients=2, pairs=pairs)
            wanted = (((0, (1, 0)), (1, (1, k - 1))), ((0, (0, 1)), (0, (0, 1))))
            self.assertEqual((told.k, told.ingredients, told.pairs), (k, 2, wanted))
            self.assertEqual(len(told), 2)
            pairs[0][0] = None
            pairs.append(None)
            self.assertEqual(told.pairs, wanted)
            self.assertTrue(told == Likenesses(pairs=wanted, k=k, ingredients=2))
            self.assertFalse(told != Likenesses(k, 2, wanted))
            self.assertFalse(told == Likenesses(k, 2, wanted[:1]))
            self.assertFalse(told == Likenesses(k, 2, wanted[::-1]))
            self.assertEqual(len(Likenesses(k, 3, [])), 0)
            for value in ODD + (wanted, (k, 2, wanted)):
                self.assertFalse(told == value)
                self.assertTrue(told != value)
        self.assertFalse(Likenesses(2, 2, []) == Likenesses(3, 2, []))
        self.assertFalse(Likenesses(2, 2, []) == Likenesses(2, 3, []))
        self.assertEqual(len(Likenesses(2, 5, [((0, (1, 0, 0, 0, 0)),) * 2] * 10)), 10)

    def test_errors(self):
        pure, good = (0, (1, 0)), ((0, (1, 0)), (0, (0, 1)))
        for value in ODD + (6, 1, 0):
            for rest in ((2, [good]), (None, None), (0, [None])):
                self.assertEqual(error_of(Likenesses, value, *rest), ("InvalidBowl", 0), value)
        for k in SIZES:
            for value in ODD + (6, 0, 12):
                for pairs in ([good], None, [None]):
                    self.assertEqual(error_of(Likenesses, k, value, pairs), ("InvalidQuestion", 1), value)
            for value in NO_SEQUENCES:
                self.assertEqual(error_of(Likenesses, k, 2, value), ("InvalidPair", 0), value)
            wrong = ODD + (
                (pure,), (pure, pure, pure), (pure, [0, (1, 0)]), ([0, [1, 0]], pure), (pure, (0, [1, 0])), (pure, (1, (1, 0))),
                (pure, (1, (k, 0))), (pure, (0, (1, 0, 0))), (pure, (0, (1,))), (pure, (0, (True, 0))), (pure, (False, (1, 0))),
                (pure, (0, (1, 1))), (pure, (-1, (1, 0))), (pure, (0, (2, -1))), (pure, None), (None, pure), deep_value(50),
                (pure, (10 ** 20, (1, 0))),
            )
            for value in wrong:
                self.assertEqual(error_of(Likenesses, k, 2, [good, value, None]), ("InvalidPair", 1), value)
                self.assertEqual(error_of(Likenesses, k, 2, (value,)), ("InvalidPair", 0), value)
            for m in range(1, 6):
                self.assertIsNone(error_of(Likenesses, k, m, [((0, (1,) + (0,) * (m - 1)),) * 2]))

    def test_books(self):
        rnd = generator(1)
        for k in SIZES:
            kinds = set()
            for _ in range(40):
                table = drawn_faithful(rnd, k)
                told = drawn_told(rnd, k, deepest=1)
                naming = [rnd.randrange(table.labels) for _ in range(told.ingredients)]
                labels = [[label_of(table, naming, recipe_of(k, mixture)) for mixture in pair] for pair in told.pairs]
                wrong = [at for at, (one, other) in enumerate(labels) if one != other]
                found = broken(told=told, table=table, naming=tuple(naming))
                self.assertEqual(found, wrong[0] if wrong else None)
                kinds.add(found is None)
                mixture = drawn_mixture(rnd, k, told.ingredients)
                recipe = (recipe_of(k, mixture),) * k
                self.assertEqual(book_label(table=table, naming=naming, mixture=mixture), label_of(table, naming, recipe))
            self.assertEqual(kinds, {True, False})

    def test_sealed_sets(self):
        rnd = generator(2)
        for k in SIZES:
            for _ in range(80):
                told = drawn_told(rnd, k)
                wanted = plain_sealed_sets(told)
                self.assertEqual(sealed_sets(told=told), wanted)
                mixture = drawn_mixture(rnd, k, told.ingredients)
                around = [some for some in wanted if set(contained(mixture)) <= set(some)]
                least = [some for some in around if all(set(some) <= set(other) for other in around)]
                self.assertEqual([sealing(told=told, mixture=mixture)], least)

    def test_no_pairs(self):
        for k in SIZES:
            told = Likenesses(k, 3, ())
            self.assertEqual(sealed_sets(told), ((0,), (0, 1), (0, 1, 2), (0, 2), (1,), (1, 2), (2,)))
            self.assertEqual(sealing(told, (1, (1, 0, k - 1))), (0, 2))
            equal = Likenesses(k, 3, [((1, (1, 0, k - 1)),) * 2])
            self.assertEqual(sealed_sets(equal), sealed_sets(told))


class FollowingTest(unittest.TestCase):
    def test_alike_or_marked(self):
        rnd = generator(3)
        for k in SIZES:
            kinds = {}
            for _ in range(250):
                told, one, other = drawn_question(rnd, k)
                sure = sure_alike(told=told, one=one, other=other)
                self.assertIsInstance(sure, bool)
                kinds[sure] = kinds.get(sure, 0) + 1
                if sure:
                    found = multipliers(told=told, one=one, other=other)
                    self.check_multipliers(told, one, other, found)
                    self.assertIs(is_multipliers(told=told, one=one, other=other, value=found), True)
                    way = passage(told=told, one=one, other=other)
                    self.assertTrue(plainly_passage(told, one, other, way))
                    self.assertIs(is_passage(told=told, one=one, other=other, value=way), True)
                    self.assertEqual(error_of(least_marking, told, one, other), ("Refused", 0))
                else:
                    self.assertIs(marks_apart(told, one, other, least_marking(told, one, other)), True)
                    self.assertEqual(error_of(multipliers, told, one, other), ("Refused", 0))
                    self.assertEqual(error_of(passage, told, one, other), ("Refused", 0))
            self.assertGreater(min(kinds[True], kinds[False]), 30)

    def check_multipliers(self, told, one, other, value):
        e, row = value
        self.assertTrue(0 <= e <= 60)
        self.assertEqual(len(row), len(told.pairs))
        some = sealing(told, one)
        sums = [Fraction(0)] * told.ingredients
        for number, pair in zip(row, told.pairs):
            if not set(contained(pair[0])) <= set(some):
                self.assertEqual(number, 0)
            for i, (ahead, behind) in enumerate(zip(*(shares(told.k, mixture) for mixture in pair))):
                sums[i] += Fraction(number, told.k ** e) * (ahead - behind)
        self.assertEqual(sums, [a - b for a, b in zip(shares(told.k, one), shares(told.k, other))])

    def test_equal_mixtures(self):
        for k in SIZES:
            told = Likenesses(k, 2, [])
            mixture = (1, (1, k - 1))
            self.assertIs(sure_alike(told, mixture, mixture), True)
            self.assertEqual(multipliers(told, mixture, mixture)[1], ())
            self.assertIs(is_passage(told, mixture, mixture, passage(told, mixture, mixture)), True)
            self.assertIs(is_passage(told, mixture, mixture, ((), 10 ** 300, (), ())), True)
            self.assertIs(is_passage(told, mixture, (0, (1, 0)), ((), 10 ** 300, (), ())), False)
            equal = Likenesses(k, 2, [(mixture, mixture)])
            self.assertIs(is_multipliers(equal, mixture, mixture, (60, (10 ** 40,))), True)
            self.assertIs(is_multipliers(equal, (0, (1, 0)), (0, (1, 0)), (60, (10 ** 40,))), False)
            self.assertIs(is_multipliers(equal, (0, (1, 0)), (0, (1, 0)), (60, (0,))), True)

    def test_many_pairs_of_five_ingredients(self):
        rnd = generator(4)
        for k in SIZES:
            for _ in range(10):
                told = Likenesses(k, 5, [[drawn_mixture(rnd, k, 5) for _ in range(2)] for _ in range(10)])
                one, other = drawn_mixture(rnd, k, 5), drawn_mixture(rnd, k, 5)
                if sure_alike(told, one, other):
                    self.check_multipliers(told, one, other, multipliers(told, one, other))

    def test_divided_by_powers(self):
        # What is told is k times as much as what is asked.
        for k in SIZES:
            n = DEEPEST[k]
            told = Likenesses(k, 2, [((0, (1, 0)), (0, (0, 1)))])
            one, other = (n, (1, k ** n - 1)), (n, (k ** n - 1, 1))
            e, row = multipliers(told, one, other)
            self.assertEqual(Fraction(row[0], k ** e), Fraction(2 - k ** n, k ** n))
            self.assertIs(is_multipliers(told, one, other, (e + 1, (row[0] * k,))), True)
            self.assertIs(is_multipliers(told, one, other, (60, (row[0] * k ** (60 - e),))), True)
            self.assertIs(is_multipliers(told, one, other, (61, (row[0] * k ** (61 - e),))), False)

    def test_multipliers_changed(self):
        rnd = generator(5)
        shown = set()
        for _ in range(300):
            told, one, other = drawn_question(rnd, rnd.choice(SIZES))
            if told.pairs and sure_alike(told, one, other):
                e, row = multipliers(told, one, other)
                at = rnd.randrange(len(row))
                for value in ((e + 1, row), (e, row[:at] + (row[at] + rnd.choice((-1, 1)),) + row[at + 1:])):
                    try:
                        self.check_multipliers(told, one, other, value)
                        shows = True
                    except AssertionError:
                        shows = False
                    shown.add(shows)
                    self.assertIs(is_multipliers(told, one, other, value), shows)
        self.assertEqual(shown, {True, False})

    def test_any_multipliers(self):
        told = Likenesses(2, 2, [((0, (1, 0)), (2, (1, 3))), ((0, (1, 0)), (0, (1, 0)))])
        one, other = (1, (1, 1)), (0, (0, 1))
        self.assertIs(sure_alike(told, one, other), False)
        told = Likenesses(2, 2, [((0, (1, 0)), (2, (1, 3))), ((1, (1, 1)), (0, (0, 1)))])
        good = multipliers(told, one, other)
        self.assertIs(is_multipliers(told, one, other, good), True)
        e, row = good
        for value in ODD + (
            list(good), (e, list(row)), (e, row, 0), (e,), (e, row[:1]), (e, row + (0,)), (-1, row), (True, row), (e, None),
            (e, (None, None)), (e, ("0", "1")), (None, row), (e, deep_value(30)), (e, (row[0], 1.0)), (e, (True, row[1])),
            (e, (row, row)), deep_value(70), (61, (0, 2 ** 61)), (10 ** 30, row),
        ):
            self.assertIs(is_multipliers(told, one, other, value), False, value)
        self.assertIs(is_multipliers(told, one, other, (0, (0, 1))), True)
        self.assertIs(is_multipliers(told, one, other, (60, (0, 2 ** 60))), True)
        # The differences fit, but the sealings do not, or the pair is not within them.
        other_told = Likenesses(2, 3, [((0, (1, 0, 0)), (0, (0, 1, 0))), ((1, (1, 0, 1)), (1, (0, 1, 1)))])
        self.assertIs(is_multipliers(other_told, (0, (1, 0, 0)), (0, (0, 1, 0)), (0, (1, 0))), True)
        self.assertIs(is_multipliers(other_told, (0, (1, 0, 0)), (0, (0, 1, 0)), (0, (0, 2))), False)
        self.assertIs(is_multipliers(other_told, (1, (1, 0, 1)), (1, (0, 1, 1)), (0, (0, 1))), True)
        apart = Likenesses(2, 3, [((1, (1, 1, 0)), (2, (1, 3, 0)))])
        self.assertIs(is_multipliers(apart, (0, (0, 1, 0)), (2, (1, 3, 0)), (0, (-1,))), False)
        self.assertIs(is_multipliers(apart, (2, (1, 3, 0)), (0, (0, 1, 0)), (0, (1,))), False)


class ExchangeTest(unittest.TestCase):
    def test_against_fractions(self):
        rnd = generator(6)
        for k in SIZES:
            kinds = set()
            for _ in range(150):
                told = drawn_told(rnd, k)
                if told.pairs:
                    mixture = drawn_mixture(rnd, k, told.ingredients)
                    exchange = (rnd.randrange(len(told)), rnd.randrange(2), rnd.randrange(6), rnd.choice((1, 1, 2, 5, 30)))
                    wanted = plainly_exchanged(told, shares(k, mixture), exchange)
                    kinds.add(wanted is None)
                    if wanted is None:
                        self.assertEqual(error_of(exchanged, told, mixture, exchange), ("Refused", 0))
                    else:
                        found = exchanged(told=told, mixture=mixture, exchange=exchange)
                        self.assertTrue(is_mixture(k, told.ingredients, found))
                        self.assertEqual(shares(k, found), wanted)
            self.assertEqual(kinds, {True, False})

    def test_edges(self):
        for k in SIZES:
            one, other = (0, (1, 0)), (0, (0, 1))
            told = Likenesses(k, 2, [(one, other)])
            self.assertEqual(exchanged(told, one, (0, 0, 0, 1)), other)
            self.assertEqual(error_of(exchanged, told, one, (0, 1, 0, 1)), ("Refused", 0))
            self.assertEqual(error_of(exchanged, told, one, (0, 0, 0, 2)), ("Refused", 0))
            self.assertEqual(exchanged(told, one, (0, 0, 1000, 1)), (1000, (k ** 1000 - 1, 1)))
            self.assertEqual(exchanged(told, one, (0, 0, 1000, 10 ** 300)), made_mixture(k, 1000, (k ** 1000 - 10 ** 300, 10 ** 300)))
            self.assertEqual(exchanged(told, one, (0, 0, 400, k ** 400)), other)
            self.assertEqual(error_of(exchanged, told, one, (0, 0, 400, k ** 400 + 1)), ("Refused", 0))
            self.assertEqual(exchanged(told, (40, (1, k ** 40 - 1)), (0, 0, 40, 1)), other)
            mixed = Likenesses(k, 2, [((1, (k - 1, 1)), (1, (k - 1, 1)))])
            self.assertEqual(exchanged(mixed, (1, (k - 1, 1)), (0, 0, 0, 10 ** 300)), (1, (k - 1, 1)))
            self.assertEqual(error_of(exchanged, mixed, (2, (k * k - 1, 1)), (0, 0, 0, 1)), ("Refused", 0))
            self.assertEqual(exchanged(mixed, (2, (k * k - 1, 1)), (0, 0, 1, 1)), (2, (k * k - 1, 1)))

    def test_the_last_time_alone(self):
        # Each time what is taken away has to be there, also if as much of it is put back.
        told = Likenesses(2, 2, [((1, (1, 1)), (0, (1, 0)))])
        self.assertEqual(exchanged(told, (2, (1, 3)), (0, 0, 2, 1)), (3, (3, 5)))
        self.assertEqual(exchanged(told, (1, (1, 1)), (0, 0, 2, 4)), (0, (1, 0)))
        self.assertEqual(error_of(exchanged, told, (1, (1, 1)), (0, 0, 2, 5)), ("Refused", 0))
        back = Likenesses(2, 2, [((0, (1, 0)), (1, (1, 1)))])
        self.assertEqual(exchanged(back, (2, (3, 1)), (0, 0, 2, 5)), (3, (1, 7)))
        self.assertEqual(error_of(exchanged, back, (2, (3, 1)), (0, 0, 2, 6)), ("Refused", 0))

    def test_any_exchange(self):
        told = Likenesses(2, 2, [((0, (1, 0)), (0, (0, 1)))])
        mixture = (0, (1, 0))
        wrong = ODD + (
            [0, 0, 0, 1], (0, 0, 0), (0, 0, 0, 1, 0), (1, 0, 0, 1), (-1, 0, 0, 1), (False, 0, 0, 1), (0, 2, 0, 1), (0, -1, 0, 1),
            (0, False, 0, 1), (0, 0, -1, 1), (0, 0, 1001, 1), (0, 0, False, 1), (0, 0, 0, 0), (0, 0, 0, -1), (0, 0, 0, True),
            (0, 0, 1000, 10 ** 300 + 1), (None, 0, 0, 1), (0, None, 0, 1), (0, 0, None, 1), (0, 0, 0, None), (0, 0, 0, 1.0),
            ((0,), 0, 0, 1), deep_value(50), ("0", "0", "0", "1"),
        )
        for value in wrong:
            self.assertEqual(error_of(exchanged, told, mixture, value), ("Refused", 0), value)
            for parts in (((value,), 1, (), ()), ((), 1, (value,), ()), ((), 0, (value,), ()), ((), 1, (), (value,))):
                self.assertIs(is_passage(told, mixture, (0, (0, 1)), parts), False, value)

    def test_no_times(self):
        # Nothing would be lacking here, but an exchange is made once at least.
        told = Likenesses(2, 2, [((0, (1, 0)), (0, (1, 0)))])
        for deep in (0, 1, 1000):
            self.assertEqual(error_of(exchanged, told, (0, (1, 0)), (0, 0, deep, 0)), ("Refused", 0))
            self.assertIs(is_passage(told, (0, (1, 0)), (0, (1, 0)), (((0, 0, deep, 0),), 0, (), ())), False)
            self.assertIs(is_passage(told, (0, (1, 0)), (0, (1, 0)), (((0, 0, deep, 1),), 0, (), ())), True)

    def test_any_passage(self):
        told = Likenesses(2, 2, [((0, (1, 0)), (0, (0, 1)))])
        one, other = (0, (1, 0)), (0, (0, 1))
        step, back = (0, 0, 0, 1), (0, 1, 0, 1)
        for value in (
            ((step,), 0, (), ()), ((), 1, (step,), ()), ((), 0, (), (step,)), ((), 10 ** 300, (), (step,)),
            ((step, back, step), 0, (), ()), ((step,), 10 ** 300, (back, step), ()), ((), 2 ** 90, ((0, 0, 90, 1),), ()),
            ((), 2 ** 50, ((0, 0, 60, 2 ** 10),), ()), ((), 0, (back,), (step,)), ((step, back), 1, (step,), (back, step)),
        ):
            self.assertIs(is_passage(told, one, other, value), True, value)
        for value in ODD + (
            [(step,), 0, (), ()], ([step], 0, (), ()), ((step,), 0, []), ((step,), 0, (), (), ()), ((step,), -1, (), ()),
            ((step,), True, (), ()), ((step,), False, (), ()), ((step,), 10 ** 300 + 1, (), ()), ((step,), None, (), ()),
            ((step,), 0, None, ()), ((step,), 0, (), None), ((), 2, (step,), ()), ((), 1, (), ()), ((step, step), 0, (), ()),
            ((step,), 1, (back,), ()), ((), 2 ** 90 - 1, ((0, 0, 90, 1),), ()), ((), 2 ** 90 + 1, ((0, 0, 90, 1),), ()),
            ((back, step), 0, (), (step,)), deep_value(80), ((), 0, (step,), ()), ((), 3, (step, back, step), ()),
            ((), 0, (), (back, step, step)), ((), 10 ** 300, (step,), ()),
        ):
            self.assertIs(is_passage(told, one, other, value), False, value)

    def test_passages_changed(self):
        rnd = generator(7)
        shown = {True: 0, False: 0}
        for _ in range(500):
            told, one, other = drawn_question(rnd, rnd.choice(SIZES))
            if told.pairs and sure_alike(told, one, other):
                for _ in range(4):
                    value = changed_passage(rnd, told, passage(told, one, other))
                    shows = plainly_passage(told, one, other, value)
                    shown[shows] += 1
                    self.assertIs(is_passage(told, one, other, value), shows)
        self.assertGreater(min(shown.values()), 40)

    def test_deep_mixtures(self):
        for k in SIZES:
            told = Likenesses(k, 2, [((0, (1, 0)), (0, (0, 1)))])
            one, other = (40, (1, k ** 40 - 1)), (40, (k ** 40 - 1, 1))
            self.assertIs(is_passage(told, one, other, ((), k ** 40 - 2, ((0, 1, 40, 1),), ())), True)
            self.assertIs(is_passage(told, one, other, ((), k ** 40 - 1, ((0, 1, 40, 1),), ())), False)


def changed_passage(rnd, told, value):
    parts = list(value)
    kind = rnd.randrange(7)
    at = rnd.choice((0, 2, 2, 3))
    if kind == 0:
        parts[1] = max(0, parts[1] + rnd.choice((-1, 1)))
    elif kind == 1:
        parts[1] = parts[1] * told.k
    elif kind == 2:
        parts[at] = parts[at][:-1]
    elif kind == 3 and parts[at]:
        index, way, deep, times = parts[at][0]
        parts[at] = ((index, way, deep + 1, times * told.k),) + parts[at][1:]
    elif kind == 4 and parts[at]:
        index, way, deep, times = parts[at][0]
        parts[at] = ((index, 1 - way, deep, times),) + parts[at][1:]
    elif kind == 5 and parts[at]:
        index, way, deep, times = parts[at][-1]
        parts[at] = parts[at] + ((index, 1 - way, deep, times), (index, way, deep, times))
    else:
        parts[at] = parts[at][::-1]
    return tuple(parts)


if __name__ == "__main__":
    unittest.main()
