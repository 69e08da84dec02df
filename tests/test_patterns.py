"""Point 39: patterns."""

import unittest
from fractions import Fraction

from mixlabels.cases import all_cases, case_of
from mixlabels.fillings import count_of, least_depth, mixture_at
from mixlabels.mixtures import is_mixture, mixture_of
from mixlabels.patterns import pattern, patterns
from tests.helpers import SIZES, generator, moduli_of, random_recipe


def drawn_comparisons(rnd, m, many=None, size=None):
    """Comparisons whose bounds mostly lie between the weights."""
    most = 6 if m < 4 else 3
    found = []
    for _ in range(rnd.randrange(most + 1) if many is None else many):
        great = size or rnd.choice([1, 2, 3, 6, 1000])
        c = tuple(rnd.randint(-great, great) for _ in range(m))
        found.append((c, rnd.choice([0, 1, -1, rnd.randint(min(c), max(c)), rnd.randint(min(c), max(c))])))
    return found


def drawn_case(rnd, k, m, most=30):
    moduli = [d for d in moduli_of(k, most) if ((1 + d) ** m - 1) // d <= 400]
    d = rnd.choice(moduli)
    return d, rnd.choice(all_cases(m, d))


def plain_pattern(k, comparisons, mixture):
    n, counts = mixture
    found = []
    for c, b in comparisons:
        total = sum(Fraction(weight * count, k ** n) for weight, count in zip(c, counts))
        found.append((total > b) - (total < b))
    return tuple(found)


def walk(rnd, k, modulus, case, depths=4, most=400):
    """Mixtures of a case, all of them where they are few."""
    least = least_depth(k, modulus, case)
    for depth in range(least, least + depths):
        many = count_of(k, modulus, case, depth)
        for at in range(many) if many <= most else [rnd.randrange(many) for _ in range(most)]:
            yield mixture_at(k, modulus, case, depth, at)


def is_free(comparisons, some, told):
    """Whether a 0 stands only where all mixtures of just these ingredients have one."""
    return all(sign != 0 or all(c[i] == b for i in some) for (c, b), sign in zip(comparisons, told))


class PatternTest(unittest.TestCase):
    def test_one_mixture(self):
        rnd = generator(1)
        for k in SIZES:
            for _ in range(150):
                m = rnd.randrange(1, 5)
                comparisons = drawn_comparisons(rnd, m)
                mixture = mixture_of(k, m, random_recipe(rnd, k, m, 3))
                told = pattern(k=k, comparisons=comparisons, mixture=mixture)
                self.assertEqual(told, plain_pattern(k, comparisons, mixture))
                self.assertEqual(pattern(k, tuple(comparisons), mixture), told)
        self.assertEqual(pattern(2, [], (0, (1,))), ())
        self.assertEqual(pattern(2, [((1, 0), 1), ((2, 0), 1), ((0, 1), 0), ((2, 0), 1)], (1, (1, 1))), (-1, 0, 1, 0))
        self.assertEqual(pattern(5, [((1000, -1000), -1000), ((1000, -1000), -999)], (0, (0, 1))), (0, -1))


class PatternsTest(unittest.TestCase):
    def check(self, rnd, k, comparisons, modulus, case, **more):
        told = patterns(k=k, comparisons=comparisons, modulus=modulus, case=case)
        m = len(case[1])
        self.assertIsInstance(told, tuple)
        signs = [row for row, _ in told]
        self.assertEqual(signs, sorted(set(signs)))
        for row, mixture in told:
            self.assertTrue(is_mixture(k, m, mixture))
            self.assertEqual(case_of(k, mixture, modulus), case)
            self.assertEqual(plain_pattern(k, comparisons, mixture), row)
            self.assertLessEqual(mixture[0], 100)
        seen = {plain_pattern(k, comparisons, mixture) for mixture in walk(rnd, k, modulus, case, **more)}
        self.assertLessEqual(seen, set(signs))
        return signs, len(seen) == len(signs)

    def test_against_a_walk(self):
        rnd = generator(2)
        for k in SIZES:
            whole = 0
            for _ in range(60):
                m = rnd.randrange(1, 5)
                modulus, case = drawn_case(rnd, k, m)
                whole += self.check(rnd, k, drawn_comparisons(rnd, m), modulus, case)[1]
            self.assertGreater(whole, 30)

    def test_all_patterns_are_seen_deep_enough(self):
        rnd = generator(3)
        for k in SIZES:
            for _ in range(10):
                m = rnd.randrange(2, 4)
                modulus = rnd.choice(moduli_of(k, 3))
                case = rnd.choice([case for case in all_cases(m, modulus) if len(case[0]) == m])
                comparisons = drawn_comparisons(rnd, m, rnd.randrange(1, 4), rnd.choice([1, 2]))
                told = self.check(rnd, k, comparisons, modulus, case, depths=2, most=100)[0]
                depth = 7 if k == 2 else 4
                many = count_of(k, modulus, case, depth)
                row = range(many) if many < 5000 else [rnd.randrange(many) for _ in range(5000)]
                seen = {pattern(k, comparisons, mixture_at(k, modulus, case, depth, at)) for at in row}
                free = {signs for signs in told if is_free(comparisons, case[0], signs)}
                self.assertLessEqual(seen, set(told))
                self.assertLessEqual(free, seen)

    def test_free_patterns_occur_in_all_cases(self):
        rnd = generator(4)
        for k in SIZES:
            for _ in range(12):
                m = rnd.randrange(1, 5)
                comparisons = drawn_comparisons(rnd, m)
                some = drawn_case(rnd, k, m)[1][0]
                told = []
                for _ in range(3):
                    modulus = rnd.choice(moduli_of(k, 30))
                    case = rnd.choice([case for case in all_cases(m, modulus) if case[0] == some][:500])
                    rows = [row for row, _ in patterns(k, comparisons, modulus, case)]
                    told.append([row for row in rows if is_free(comparisons, some, row)])
                self.assertEqual(told[0], told[1])
                self.assertEqual(told[0], told[2])

    def test_equal_shares_of_three(self):
        rows = [((1, -1, 0), 0), ((0, 1, -1), 0)]
        for k in SIZES:
            for modulus in moduli_of(k, 7):
                cases = [case for case in all_cases(3, modulus) if len(case[0]) == 3]
                met = [case for case in cases if (0, 0) in dict(patterns(k, rows, modulus, case))]
                if k == 3:
                    third = pow(3, -1, modulus)
                    self.assertEqual(met, [((0, 1, 2), (third % modulus,) * 3)])
                else:
                    self.assertEqual(met, [])

    def test_zero_only_in_some_cases(self):
        for k in SIZES:
            for modulus in moduli_of(k, 11):
                for case in all_cases(2, modulus):
                    told = dict(patterns(k, [((k, 0), 1)], modulus, case))
                    wanted = case[0] == (0, 1) and (k * case[1][0] - 1) % modulus == 0
                    self.assertEqual((0,) in told, wanted)
                    if wanted:
                        self.assertEqual(told[0,], (1, (1, k - 1)))

    def test_greatest_numbers(self):
        rnd = generator(5)
        for k in SIZES:
            for m, many in ((2, 6), (3, 6), (4, 3)):
                for _ in range(6):
                    modulus, case = drawn_case(rnd, k, m)
                    self.check(rnd, k, drawn_comparisons(rnd, m, many, 1000), modulus, case, depths=3)
        point = [((1000, -999), 1), ((-999, 1000), -1), ((1000, 0), 1), ((1, 0), 0), ((0, 1), 1), ((998, 999), 999)]
        for k in SIZES:
            self.check(rnd, k, point, 1, ((0, 1), (0, 0)), depths=12)
        near = [((999, 1, 0), 500), ((1, 999, 0), 500), ((0, 1, 1), 1), ((1000, 998, 3), 999), ((2, 1, 0), 1), ((1, 1, 1), 1)]
        for k in SIZES:
            for modulus in moduli_of(k, 7):
                for case in all_cases(3, modulus)[-3:]:
                    self.check(rnd, k, near, modulus, case)

    def test_edges(self):
        for k in SIZES:
            self.assertEqual(patterns(k, [], 1, ((0,), (0,))), (((), (0, (1,))),))
            self.assertEqual(patterns(k, [((3,), 3), ((3,), 4), ((3,), 2)], 1, ((0,), (0,))), (((0, -1, 1), (0, (1,))),))
            for case in all_cases(2, 1):
                told = patterns(k, (((1, 1), 1), ((1, 1), 1), ((2, 2), 3)), 1, case)
                self.assertEqual([row for row, _ in told], [(0, 0, -1)])
            same = [((1, 0), 0), ((1, 0), 0), ((-1, 0), 0)]
            told = [[row for row, _ in patterns(k, same, 1, case)] for case in all_cases(2, 1)]
            self.assertEqual(told, [[(1, 1, -1)], [(1, 1, -1)], [(0, 0, 0)]])

    def test_later_changes(self):
        comparisons = [((1, 0), 1), ((2, 0), 1)]
        told = patterns(2, comparisons, 1, ((0, 1), (0, 0)))
        comparisons.clear()
        self.assertEqual([row for row, _ in told], [(-1, -1), (-1, 0), (-1, 1)])


if __name__ == "__main__":
    unittest.main()
