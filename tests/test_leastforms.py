"""Point 49: the form of the least table, and sizes told without search."""

import itertools
import math
import unittest

from mixlabels.cases import all_cases
from mixlabels.least import classes, least_size
from mixlabels.leastforms import least_form, periods, settled_set
from mixlabels.leastsizes import among_oracle, among_size, remainder_oracle, remainder_size
from mixlabels.mixtures import contained, mixture_of, remainders
from mixlabels.oracles import Oracle
from tests.helpers import SIZES, generator, moduli_of, random_recipe
from tests.test_oracles import case_number, good_moduli
from tests.test_trails import drawn_oracle


def all_sets(m):
    return sorted(some for many in range(1, m + 1) for some in itertools.combinations(range(m), many))


def plain_settled(oracle, some):
    cases = all_cases(oracle.ingredients, oracle.modulus)
    found = set(some)
    for i in range(oracle.ingredients):
        beside = [case for case in cases if set(some) <= set(case[0]) and i not in case[0]]
        with_it = [(tuple(sorted(case[0] + (i,))), case[1]) for case in beside]
        if all(oracle.case_answer(case) == oracle.case_answer(other) for case, other in zip(beside, with_it)):
            found.add(i)
    return tuple(sorted(found))


def plain_periods(oracle, some):
    m, d = oracle.ingredients, oracle.modulus
    cases = [case for case in all_cases(m, d) if set(some) <= set(case[0])]
    found = []
    for row in itertools.product(*[range(d) if i in some else (0,) for i in range(m)]):
        if sum(row) % d == 0:
            moved = [(case[0], tuple((a + b) % d for a, b in zip(case[1], row))) for case in cases]
            if all(oracle.case_answer(case) == oracle.case_answer(other) for case, other in zip(cases, moved)):
                found.append(row)
    return tuple(found)


class FormTest(unittest.TestCase):
    def test_against_the_words(self):
        rnd = generator(1)
        for k in SIZES:
            for _ in range(30):
                oracle = drawn_oracle(rnd, k, 40)
                m, d = oracle.ingredients, oracle.modulus
                form = []
                for some in all_sets(m):
                    told = settled_set(oracle=oracle, contained=some)
                    self.assertEqual(told, plain_settled(oracle, some))
                    rows = periods(oracle=oracle, contained=some)
                    self.assertEqual(rows, plain_periods(oracle, some))
                    self.assertIsInstance(rows, tuple)
                    if told == some:
                        self.assertEqual(d ** (len(some) - 1) % len(rows), 0)
                        form.append((some, d ** (len(some) - 1) // len(rows)))
                self.assertEqual(least_form(oracle=oracle), tuple(form))
                self.assertEqual(sum(many for _, many in form), least_size(oracle))

    def test_which_cases_are_alike(self):
        rnd = generator(2)
        for k in SIZES:
            for _ in range(15):
                oracle = drawn_oracle(rnd, k, 30)
                cases, numbers = all_cases(oracle.ingredients, oracle.modulus), classes(oracle)
                settled = {some: settled_set(oracle, some) for some in all_sets(oracle.ingredients)}
                rows = {some: periods(oracle, some) for some in set(settled.values())}
                for at, other in itertools.combinations(range(len(cases)), 2):
                    some = settled[cases[at][0]]
                    gap = tuple((a - b) % oracle.modulus for a, b in zip(cases[at][1], cases[other][1]))
                    alike = settled[cases[other][0]] == some and gap in rows[some]
                    self.assertEqual(numbers[at] == numbers[other], alike)

    def test_greatest_oracles(self):
        rnd = generator(3)
        for k, m, d in ((5, 4, 6), (5, 3, 18), (2, 3, 17), (3, 2, 28), (2, 1, 29), (3, 4, 5), (4, 4, 5)):
            constant = Oracle(k, m, d, [3] * case_number(m, d))
            self.assertEqual(least_form(constant), ((tuple(range(m)), 1),))
            self.assertEqual(settled_set(constant, (0,)), tuple(range(m)))
            self.assertEqual(len(periods(constant, tuple(range(m)))), d ** (m - 1))
            unlike = Oracle(k, m, d, list(range(case_number(m, d))))
            told = tuple((some, d ** (len(some) - 1)) for some in all_sets(m))
            self.assertEqual(least_form(unlike), told)
            self.assertEqual(periods(unlike, tuple(range(m))), ((0,) * m,))
            weights = [rnd.randrange(d) for _ in range(m)]
            oracle = remainder_oracle(k, weights, d, rnd.randrange(d))
            self.assertEqual(sum(many for _, many in least_form(oracle)), least_size(oracle))

    def test_examples(self):
        oracle = Oracle(2, 2, 1, [1, 1, 0])
        self.assertEqual(settled_set(oracle, (0,)), (0, 1))
        self.assertEqual(settled_set(oracle, (1,)), (1,))
        self.assertEqual(least_form(oracle), (((0, 1), 1), ((1,), 1)))
        oracle = remainder_oracle(2, [1, 0], 9, 4)
        self.assertEqual(periods(oracle, (0, 1)), ((0, 0),))
        self.assertEqual(least_form(oracle), (((0, 1), 9),))
        oracle = remainder_oracle(2, [3, 0], 9, 3)
        self.assertEqual(periods(oracle, (0, 1)), ((0, 0), (3, 6), (6, 3)))
        self.assertEqual(periods(oracle, (1,)), ((0, 0),))


class SizeTest(unittest.TestCase):
    def test_remainders(self):
        rnd = generator(4)
        for k in SIZES:
            for m in range(1, 5):
                for d in [d for d in good_moduli(k, m) if case_number(m, d) <= 160]:
                    step = rnd.choice([e for e in range(1, d + 1) if d % e == 0])
                    for weights in ([rnd.randint(-40, 40) for _ in range(m)], [step * rnd.randrange(d) + 5 for _ in range(m)]):
                        self.check(rnd, k, weights, d, rnd.choice([rnd.randint(-60, 60), weights[0], weights[0] + step]))

    def check(self, rnd, k, weights, modulus, value):
        oracle = remainder_oracle(k=k, weights=weights, modulus=modulus, value=value)
        m = len(weights)
        self.assertEqual((oracle.k, oracle.ingredients, oracle.modulus), (k, m, modulus))
        for _ in range(5):
            mixture = mixture_of(k, m, random_recipe(rnd, k, m, 3))
            total = sum(weight * rest for weight, rest in zip(weights, remainders(k, mixture, modulus)))
            self.assertEqual(oracle.mixture_answer(mixture), int((total - value) % modulus == 0))
        self.assertEqual(remainder_size(weights=weights, modulus=modulus, value=value), least_size(oracle))

    def test_remainder_edges(self):
        self.assertEqual(remainder_size((1, 0), 29, 5), 29)
        self.assertEqual(remainder_size([7], 29, 7), 1)
        self.assertEqual(remainder_size([7], 29, 8), 1)
        self.assertEqual(remainder_size((2, 2, 2), 9, 2), 1)
        self.assertEqual(remainder_size((0, 3), 9, 0), 3)
        self.assertEqual(remainder_size((0, 3), 9, 1), 1)
        self.assertEqual(remainder_size((0, -3), 9, -6), 3)
        self.assertEqual(remainder_size((10 ** 40, 10 ** 40 + 1), 1, 10 ** 50), 1)
        self.assertEqual(remainder_oracle(2, (0, 9), 9, 9).answers, (1,) * 11)
        self.assertEqual(remainder_oracle(3, (1, 0), 1, 7).answers, (1, 1, 1))
        for k in SIZES:
            for d in moduli_of(k, 30):
                self.assertEqual(remainder_size((1, 0), d, 0), d)

    def test_among(self):
        rnd = generator(5)
        for k in SIZES:
            for m in range(1, 5):
                for some in [()] + all_sets(m):
                    for least in range(len(some) + 3):
                        oracle = among_oracle(k=k, ingredients=m, some=some, least=least)
                        self.assertEqual((oracle.k, oracle.ingredients, oracle.modulus), (k, m, 1))
                        for _ in range(4):
                            mixture = mixture_of(k, m, random_recipe(rnd, k, m, 3))
                            wanted = len(set(contained(mixture)) & set(some)) >= least
                            self.assertEqual(oracle.mixture_answer(mixture), int(wanted))
                        size = among_size(ingredients=m, some=some, least=least)
                        self.assertEqual(size, least_size(oracle))
                        fewer = sum(math.comb(len(some), many) for many in range(least))
                        plain = 1 if least in (0, len(some) + 1, len(some) + 2) else 1 + fewer - (len(some) == m)
                        self.assertEqual(size, plain)


if __name__ == "__main__":
    unittest.main()
