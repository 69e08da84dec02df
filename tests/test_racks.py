"""Points 74 and 75: racks, and mixed recipes."""

import itertools
import math
import unittest
from fractions import Fraction

from mixlabels.mixed import checked_mixed, is_shares, mixed_recipe, mixed_shares, share_remainders, told_apart
from mixlabels.racks import Rack, standard_rack
from mixlabels.standard import standard_table
from mixlabels.tables import Table
from tests.helpers import NO_SEQUENCES, ODD, SIZES, deep_value, error_of, generator, least_table, most_labels, random_table

ALL_SIZES = [sizes for many in range(1, 5) for sizes in itertools.combinations(SIZES, many)]


def pair(number):
    return number.numerator, number.denominator


def drawn_rack(rnd, sizes=None, most=12):
    chosen = sizes or rnd.choice(ALL_SIZES)
    labels = rnd.randrange(1, min([most] + [most_labels(k) for k in chosen]) + 1)
    return Rack([random_table(rnd, k, labels) for k in rnd.sample(chosen, len(chosen))])


def drawn_mixed(rnd, sizes, ingredients, deep=4, chance=0.7):
    if deep == 0 or rnd.random() > chance:
        return rnd.randrange(ingredients)
    return tuple(drawn_mixed(rnd, sizes, ingredients, deep - 1, chance) for _ in range(rnd.choice(sizes)))


def plain_shares(ingredients, recipe):
    if not isinstance(recipe, tuple):
        return [Fraction(int(i == recipe)) for i in range(ingredients)]
    rows = [plain_shares(ingredients, cup) for cup in recipe]
    return [sum(row[i] for row in rows) / len(recipe) for i in range(ingredients)]


def is_of(number, sizes):
    """Whether each prime divisor of the number divides some size."""
    return math.prod(sizes) ** 40 % number == 0


def drawn_shares(rnd, sizes, ingredients, whole=None):
    if whole is None:
        whole = rnd.choice([number for number in range(1, 1001) if is_of(number, sizes)])
    cuts = [0] + sorted(rnd.randrange(whole + 1) for _ in range(ingredients - 1)) + [whole]
    return tuple(pair(Fraction(b - a, whole)) for a, b in zip(cuts, cuts[1:]))


class RackTest(unittest.TestCase):
    def test_attributes(self):
        rnd = generator(1)
        for sizes in ALL_SIZES:
            labels = rnd.randrange(1, min(most_labels(k) for k in sizes) + 1)
            tables = [random_table(rnd, k, labels) for k in sizes]
            passed = rnd.sample(tables, len(tables))
            rack = Rack(tables=passed)
            passed.append(None)
            self.assertEqual((rack.tables, rack.sizes, rack.labels), (tuple(tables), sizes, labels))
            self.assertIsInstance(rack.tables, tuple)
            self.assertTrue(rack == Rack(tuple(tables)))
            self.assertFalse(rack != Rack(tuple(tables[::-1])))
            if len(sizes) > 1:
                self.assertFalse(rack == Rack(tables[1:]))
            for value in ODD + tuple(tables) + (tuple(tables),):
                self.assertFalse(rack == value)
                self.assertTrue(rack != value)
        self.assertFalse(Rack([least_table(2, 2)]) == Rack([Table(2, 2, [0] * 4)]))

    def test_errors(self):
        good = least_table(3, 2)
        for value in NO_SEQUENCES + ([], ()):
            self.assertEqual(error_of(Rack, value), ("InvalidTable", 0), value)
        for value in ODD + (good, least_table(2, 3), least_table(4, 1), [least_table(2, 2)], Rack([least_table(2, 2)])):
            self.assertEqual(error_of(Rack, [good, value, None]), ("InvalidTable", 1), value)
            self.assertEqual(error_of(Rack, (good, least_table(2, 2), value)), ("InvalidTable", 2), value)
        for value in ODD:
            self.assertEqual(error_of(Rack, [value, good]), ("InvalidTable", 0), value)

    def test_blend(self):
        rnd = generator(2)
        for _ in range(60):
            rack = drawn_rack(rnd)
            for _ in range(20):
                k = rnd.choice(rack.sizes)
                cups = [rnd.randrange(rack.labels) for _ in range(k)]
                wanted = rack.tables[rack.sizes.index(k)].blend(cups)
                self.assertEqual((rack.blend(cups=cups), rack.blend(tuple(cups))), (wanted, wanted))
            for many in range(7):
                if many not in rack.sizes:
                    self.assertEqual(error_of(rack.blend, [0] * many), ("Refused", many))
                for value in ODD + (rack.labels,):
                    if value == 10 ** 30 or not isinstance(value, int) or isinstance(value, bool) or value < 0 or value >= rack.labels:
                        self.assertEqual(error_of(rack.blend, [0] * many + [value, None]), ("Refused", many), value)
            for value in NO_SEQUENCES:
                self.assertEqual(error_of(rack.blend, value), ("Refused", 0), value)

    def test_standard_racks(self):
        for sizes in ALL_SIZES:
            for m, d in itertools.product(range(1, 5), (1, 2, 3, 5, 7, 11, 30)):
                errors = [error_of(standard_table, k, m, d) for k in sizes]
                wrong = [error for error in errors if error]
                if wrong:
                    self.assertEqual(error_of(standard_rack, sizes, m, d), wrong[0])
                else:
                    rack = standard_rack(sizes=sizes, m=m, d=d)
                    self.assertEqual(rack, Rack([standard_table(k, m, d) for k in sizes]))
                    self.assertEqual(rack.sizes, sizes)


class MixedTest(unittest.TestCase):
    def test_recipes_and_shares(self):
        rnd = generator(3)
        for sizes in ALL_SIZES:
            for _ in range(20):
                m = rnd.randrange(1, 13)
                recipe = drawn_mixed(rnd, sizes, m)
                self.assertEqual(checked_mixed(sizes=sizes, ingredients=m, value=recipe), recipe)
                shares = mixed_shares(ingredients=m, recipe=recipe)
                self.assertEqual(shares, tuple(pair(share) for share in plain_shares(m, recipe)))
                self.assertIs(is_shares(sizes=sizes, value=shares), True)

    def test_limits_of_recipes(self):
        for sizes in ALL_SIZES:
            k = sizes[0]
            deep = 0
            for _ in range(12):
                deep = (deep,) + (0,) * (k - 1)
            self.assertEqual(checked_mixed(sizes, 1, deep), deep)
            self.assertEqual(error_of(checked_mixed, sizes, 1, (deep,) + (0,) * (k - 1)), ("InvalidRecipe", 0))
            late = (0,) * (k - 1) + (deep,)
            self.assertEqual(error_of(checked_mixed, sizes, 1, late), ("InvalidRecipe", k - 1))
        wide = 0
        for size in (2, 4, 5, 5, 5, 2):
            wide = (wide,) * size
        self.assertEqual(checked_mixed((2, 4, 5), 1, wide), wide)
        self.assertEqual(error_of(checked_mixed, (2, 4, 5), 1, (wide, 0)), ("InvalidRecipe", 2000))
        self.assertEqual(error_of(checked_mixed, (2, 4, 5), 1, (0, (0, wide))), ("InvalidRecipe", 2000))
        self.assertEqual(error_of(checked_mixed, (2, 4, 5), 1, (wide, None)), ("InvalidRecipe", 2000))
        self.assertEqual(error_of(checked_mixed, (2, 4), 1, wide), ("InvalidRecipe", 0))

    def test_any_recipe(self):
        for sizes in ALL_SIZES:
            k = sizes[-1]
            for value in ODD + ([0] * k, deep_value(50), 3):
                if value not in (0, 1, 2) or isinstance(value, (bool, float)):
                    self.assertEqual(error_of(checked_mixed, sizes, 3, value), ("InvalidRecipe", 0), value)
                    cups = (2,) * (k - 1) + (value,)
                    self.assertEqual(error_of(checked_mixed, sizes, 3, cups), ("InvalidRecipe", k - 1), value)
                    inner = ((1,) * k,) * (k - 1) + (cups,)
                    self.assertEqual(error_of(checked_mixed, sizes, 3, inner), ("InvalidRecipe", k * k - 1), value)
            for many in range(8):
                if many not in sizes:
                    self.assertEqual(error_of(checked_mixed, sizes, 1, (0,) * many), ("InvalidRecipe", 0))
                    self.assertEqual(error_of(checked_mixed, sizes, 1, (0,) * (k - 1) + ((0,) * many,)), ("InvalidRecipe", k - 1))

    def test_any_shares(self):
        for sizes in ALL_SIZES:
            size = sizes[0]
            good = ((1, size), (0, 1), (size - 1, size))
            self.assertIs(is_shares(sizes, good), True)
            self.assertIs(is_shares(sizes, ((1, 1),)), True)
            self.assertIs(is_shares(sizes, ((0, 1), (1, 1))), True)
            self.assertIs(is_shares(sizes, ((1, size ** 30), (size ** 30 - 1, size ** 30))), True)
            for value in ODD + (
                list(good), ([1, size],) + good[1:], good[:2], good + ((1, size),), ((0, 1),), ((0, 1), (0, 1)), ((2, 2),), ((1, 1), (0, 2)),
                ((-1, 1), (2, 1)), ((True, 1),), ((1, True),), ((1, 1), None), ((1, 1), 0), ((1, 7), (6, 7)), ((1.0, 1),), ((1, 1, 1),),
                ((1,),), deep_value(40), ((1, -1), (2, 1)), ((-1, -1),), ("11",), ((1, 1), (0, 0)), ((1, 14), (13, 14)),
                ((2 * size, 2 * size),), ((1, 1), (1, 1), (-1, 1)), ((10 ** 20, 1), (1 - 10 ** 20, 1)),
            ):
                self.assertIs(is_shares(sizes, value), False, value)
            for prime in (2, 3, 5, 7):
                wanted = any(size % prime == 0 for size in sizes)
                self.assertIs(is_shares(sizes, ((1, prime), (prime - 1, prime))), wanted)
                self.assertIs(is_shares(sizes, ((1, prime ** 3), (0, 1), (prime ** 3 - 1, prime ** 3))), wanted)

    def test_recipes_with_shares(self):
        rnd = generator(4)
        for sizes in ALL_SIZES:
            wholes = [number for number in range(1, 1001) if is_of(number, sizes)]
            for whole in {1, wholes[-1], wholes[-2], *rnd.sample(wholes, min(len(wholes), 20))}:
                for m in range(1, 5):
                    shares = drawn_shares(rnd, sizes, m, whole)
                    recipe = mixed_recipe(sizes=sizes, shares=shares)
                    self.assertEqual(checked_mixed(sizes, m, recipe), recipe)
                    self.assertEqual(mixed_shares(m, recipe), shares)
        self.assertEqual(mixed_recipe((4,), ((1, 1),)), 0)
        # These take just as many ingredients as a recipe may have, if each part is blended of all its own.
        shares = tuple(pair(Fraction(top, 1000)) for top in (1, 333, 333, 333))
        self.assertEqual(mixed_shares(4, checked_mixed((4, 5), 4, mixed_recipe((4, 5), shares))), shares)
        shares = tuple(pair(Fraction(top, 512)) for top in (1, 170, 170, 171))
        for sizes in ((2,), (4,), (4, 5), (2, 3, 4, 5)):
            self.assertEqual(mixed_shares(4, checked_mixed(sizes, 4, mixed_recipe(sizes, shares))), shares)

    def test_remainders(self):
        rnd = generator(5)
        for sizes in ALL_SIZES:
            for _ in range(20):
                shares = drawn_shares(rnd, sizes, rnd.randrange(1, 5))
                for modulus in (1, 1000, 999, rnd.randrange(1, 1001), rnd.randrange(1, 20)):
                    wrong = [at for at, share in enumerate(shares) if math.gcd(share[1], modulus) > 1]
                    if wrong:
                        self.assertEqual(error_of(share_remainders, shares, modulus), ("Refused", wrong[0]))
                        continue
                    found = share_remainders(shares=shares, modulus=modulus)
                    self.assertEqual(len(found), len(shares))
                    for r, (top, bottom) in zip(found, shares):
                        self.assertTrue(0 <= r < modulus and (r * bottom - top) % modulus == 0)

    def test_told_apart(self):
        rnd = generator(6)
        for sizes in ALL_SIZES:
            found = set()
            for _ in range(40):
                m = rnd.randrange(1, 5)
                one, other = drawn_shares(rnd, sizes, m), drawn_shares(rnd, sizes, m)
                if rnd.random() < 0.3:
                    other = tuple(rnd.sample(one, m))
                told = told_apart(sizes=sizes, one=one, other=other)
                found.add(told)
                if one == other:
                    self.assertIsNone(told)
                elif [share[0] == 0 for share in one] != [share[0] == 0 for share in other]:
                    self.assertEqual(told, 1)
                else:
                    moduli = [d for d in range(2, 200) if all(math.gcd(d, size) == 1 for size in sizes)]
                    wanted = [d for d in moduli if share_remainders(one, d) != share_remainders(other, d)]
                    self.assertEqual(told, wanted[0])
            self.assertGreater(len(found), 2)
        # The first differing remainders are modulo 9: the shares differ by 2 * 3 * 5 * 7 / 2 ** 8.
        one, other = ((1, 256), (255, 256)), ((211, 256), (45, 256))
        self.assertEqual(told_apart((2,), one, other), 9)
        self.assertEqual(told_apart((2,), ((1, 4), (3, 4)), ((3, 4), (1, 4))), 3)
        self.assertEqual(told_apart((2, 3), ((1, 4), (3, 4)), ((3, 4), (1, 4))), 5)


if __name__ == "__main__":
    unittest.main()
