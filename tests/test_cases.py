"""Points 19 and 20: cases, and the mixtures of a case."""

import itertools
import unittest
from fractions import Fraction

from mixlabels.cases import all_cases, blend_cases, case_of, is_case
from mixlabels.fillings import count_of, least_depth, mixture_at, near
from mixlabels.mixtures import blended, contained, counts_at, is_mixture, made_mixture, mixture_of, remainders
from tests.helpers import (
    ODD, SIZES, all_mixtures, all_rows, deep_value, error_of, generator, moduli_of, random_recipe,
)


def plain_cases(m, d):
    found = []
    for many in range(1, m + 1):
        for some in itertools.combinations(range(m), many):
            for rests in itertools.product(range(d), repeat=m):
                if all(rest == 0 or i in some for i, rest in enumerate(rests)) and (sum(rests) - 1) % d == 0:
                    found.append((some, rests))
    return tuple(sorted(found))


class CasesTest(unittest.TestCase):
    def test_all(self):
        for m, most in ((1, 30), (2, 30), (3, 12), (4, 6)):
            for d in range(1, most + 1):
                cases = all_cases(ingredients=m, modulus=d)
                self.assertEqual(cases, plain_cases(m, d))
                self.assertEqual(len(cases), ((1 + d) ** m - 1) // d)
        self.assertEqual(all_cases(2, 1), (((0,), (0, 0)), ((0, 1), (0, 0)), ((1,), (0, 0))))
        self.assertEqual(all_cases(1, 7), (((0,), (1,)),))
        self.assertEqual(len(all_cases(4, 29)), (30 ** 4 - 1) // 29)

    def test_is_case(self):
        for m, d in ((1, 1), (1, 5), (2, 1), (2, 3), (3, 2)):
            told = set(all_cases(m, d))
            for many in range(m + 2):
                for some in itertools.product(range(m + 1), repeat=many):
                    for rests in itertools.product(range(d + 1), repeat=m):
                        self.assertIs(is_case(m, d, (some, rests)), (some, rests) in told)
        wrong = [
            [(0,), (1, 0)], ([0], (1, 0)), ((0,), [1, 0]), ((0,), (1, 0), 0), ((0,),), ((False,), (1, 0)), ((), (1, 0)),
            ((0,), (True, 0)), ((0,), (1.0, 0)), ((0,), (1,)), ((0,), (1, 0, 0)), ((0,), (1, 1)), ((0, 0), (1, 0)),
            ((1, 0), (1, 0)), ((0,), (4, 0)), ((0,), (-2, 0)), ((-1,), (1, 0)), ((0,), None), (None, (1, 0)),
            ((0,), ("1", 0)), ((0,), ((1,), 0)), deep_value(300), ((0.0,), (1, 0)),
        ]
        self.assertTrue(is_case(ingredients=2, modulus=3, value=((0,), (1, 0))))
        for value in wrong + list(ODD):
            self.assertIs(is_case(2, 3, value), False, value)

    def test_case_of_and_blends(self):
        rnd = generator(1)
        for k in SIZES:
            for d in moduli_of(k, 30):
                for _ in range(10):
                    m = rnd.randrange(1, 5)
                    mixtures = [mixture_of(k, m, random_recipe(rnd, k, m, 3)) for _ in range(k)]
                    cases = [case_of(k=k, mixture=mixture, modulus=d) for mixture in mixtures]
                    for case, mixture in zip(cases, mixtures):
                        self.assertEqual(case, (contained(mixture), remainders(k, mixture, d)))
                        self.assertTrue(is_case(m, d, case))
                    kept = list(cases)
                    told = blend_cases(k=k, modulus=d, cases=cases)
                    self.assertEqual(cases, kept)
                    self.assertEqual(told, case_of(k, blended(k, mixtures), d))
                    self.assertEqual(told, blend_cases(k, d, tuple(cases)))


def fillings_of(k, m, d, depth):
    """For each case its mixtures, by their counts times k ** depth, ascending."""
    found = {}
    for row in all_rows(k ** depth, m):
        mixture = made_mixture(k, depth, row)
        found.setdefault(case_of(k, mixture, d), []).append(mixture)
    return found


class FillingsTest(unittest.TestCase):
    def test_against_a_walk(self):
        for k, deepest in ((2, 4), (3, 3), (4, 2), (5, 2)):
            for m in (1, 2, 3):
                for d in [d for d in (1, 2, 3, 5, 7, 29) if d in moduli_of(k, 30)]:
                    self.check(k, m, d, deepest)
        self.check(2, 4, 3, 3)
        self.check(3, 4, 2, 2)

    def check(self, k, m, d, deepest):
        least = {}
        for depth in range(deepest + 1):
            found = fillings_of(k, m, d, depth)
            for case in all_cases(m, d)[::1 if d < 6 else 7]:
                mixtures = found.get(case, [])
                self.assertEqual(count_of(k=k, modulus=d, case=case, depth=depth), len(mixtures))
                for at, mixture in enumerate(mixtures):
                    self.assertEqual(mixture_at(k=k, modulus=d, case=case, depth=depth, at=at), mixture)
                self.assertEqual(error_of(mixture_at, k, d, case, depth, len(mixtures)), ("Refused", 4))
                if mixtures:
                    least.setdefault(case, depth)
        for case in all_cases(m, d):
            depth = least_depth(k=k, modulus=d, case=case)
            if case in least:
                self.assertEqual(depth, least[case])
            self.assertGreater(count_of(k, d, case, depth), 0)
            self.assertTrue(depth == 0 or count_of(k, d, case, depth - 1) == 0)

    def test_depth_40(self):
        rnd = generator(2)
        for k in SIZES:
            for d in [d for d in moduli_of(k, 30) if d in (1, 29, 23)]:
                for case in rnd.sample(all_cases(4, d), 8) if d > 1 else all_cases(4, d):
                    many = count_of(k, d, case, 40)
                    told = [mixture_at(k, d, case, 40, at) for at in (0, many // 3, many // 3 + 1, many - 1) if at < many]
                    for mixture in told:
                        self.assertTrue(is_mixture(k, 4, mixture))
                        self.assertLessEqual(mixture[0], 40)
                        self.assertEqual(case_of(k, mixture, d), case)
                    rows = [counts_at(k, mixture, 40) for mixture in told]
                    self.assertEqual(rows, sorted(rows))
                    for at in (many, many + 1, 10 ** 200):
                        self.assertEqual(error_of(mixture_at, k, d, case, 40, at), ("Refused", 4))

    def test_numbers_are_told_apart(self):
        case = all_cases(3, 5)[20]
        rows = [counts_at(2, mixture_at(2, 5, case, 7, at), 7) for at in range(count_of(2, 5, case, 7))]
        self.assertEqual(rows, sorted(set(rows)))

    def test_mixture_at_any_value(self):
        case = ((0, 1), (2, 2))
        for value in ODD:
            self.assertEqual(error_of(mixture_at, 2, 3, case, 3, value), ("Refused", 4), value)
        self.assertEqual(error_of(mixture_at, 2, 3, case, 0, 0), ("Refused", 4))


class NearTest(unittest.TestCase):
    def test_near(self):
        rnd = generator(3)
        for k in SIZES:
            for _ in range(300):
                m = rnd.randrange(1, 5)
                mixture = mixture_of(k, m, random_recipe(rnd, k, m, 3))
                d = rnd.choice(moduli_of(k, 30))
                some = contained(mixture)
                rests = [0] * m
                for i in some[:-1]:
                    rests[i] = rnd.randrange(d)
                rests[some[-1]] = (1 - sum(rests)) % d
                self.check(k, mixture, d, (some, tuple(rests)), rnd.choice([mixture[0], mixture[0] + 1, 9, 40]))

    def check(self, k, mixture, d, case, depth):
        have = counts_at(k, mixture, depth)
        if any(have[i] < d for i in case[0]):
            self.assertEqual(error_of(near, k, mixture, d, case, depth), ("Refused", 4))
            return
        told = near(k=k, mixture=mixture, modulus=d, case=case, depth=depth)
        self.assertTrue(is_mixture(k, len(have), told))
        self.assertLessEqual(told[0], depth)
        self.assertEqual(case_of(k, told, d), case)
        for one, other in zip(have, counts_at(k, told, depth)):
            self.assertLess(abs(Fraction(one - other, k ** depth)), Fraction(len(case[0]) * d, k ** depth))

    def test_edges(self):
        self.assertEqual(near(2, (0, (1, 0)), 1, ((0,), (0, 0)), 0), (0, (1, 0)))
        self.assertEqual(error_of(near, 2, (0, (1, 0)), 3, ((0,), (1, 0)), 0), ("Refused", 4))
        self.assertEqual(near(2, (0, (1, 0)), 3, ((0,), (1, 0)), 2), (0, (1, 0)))
        self.assertEqual(error_of(near, 2, (1, (1, 1)), 3, ((0, 1), (2, 2)), 2), ("Refused", 4))


class LotsTest(unittest.TestCase):
    def test_counts_add_up(self):
        for k in SIZES:
            for d in moduli_of(k, 7):
                for depth in (0, 1, 2):
                    total = sum(count_of(k, d, case, depth) for case in all_cases(3, d))
                    self.assertEqual(total, len(all_mixtures(k, 3, depth)))


if __name__ == "__main__":
    unittest.main()
