"""Points 21 and 22: oracles, and the moduli that settle them."""

import itertools
import math
import unittest

from mixlabels.cases import all_cases, case_of
from mixlabels.fillings import least_depth, mixture_at
from mixlabels.mixtures import contained, is_mixture, mixture_of
from mixlabels.moduli import agree, reduced, set_moduli, settling_modulus, with_modulus
from mixlabels.oracles import Oracle, paired
from tests.helpers import (
    NO_SEQUENCES, ODD, SIZES, deep_value, error_of, generator, moduli_of, random_recipe,
)


def case_number(m, d):
    return ((1 + d) ** m - 1) // d


def good_moduli(k, m):
    return [d for d in moduli_of(k, 30) if case_number(m, d) <= 400]


def random_oracle(rnd, k, m=None, d=None, answers=2, finer=None):
    """An oracle; its answers depend on the remainders modulo `finer` alone."""
    m = m or rnd.randrange(1, 5)
    d = d or rnd.choice(good_moduli(k, m))
    finer = finer or rnd.choice([e for e in range(1, d + 1) if d % e == 0])
    told = {}
    row = []
    for some, rests in all_cases(m, d):
        row.append(told.setdefault((some, tuple(rest % finer for rest in rests)), rnd.randrange(answers)))
    return Oracle(k, m, d, row)


def some_mixtures(rnd, k, m, many=30):
    return [mixture_of(k, m, random_recipe(rnd, k, m, 4)) for _ in range(many)]


class OracleTest(unittest.TestCase):
    def test_answers(self):
        rnd = generator(1)
        for k in SIZES:
            for m in range(1, 5):
                for d in rnd.sample(good_moduli(k, m), 3):
                    cases = all_cases(m, d)
                    row = [rnd.randrange(5) for _ in cases]
                    oracle = Oracle(k=k, ingredients=m, modulus=d, answers=row)
                    self.assertEqual((oracle.k, oracle.ingredients, oracle.modulus), (k, m, d))
                    self.assertEqual(oracle.answers, tuple(row))
                    self.assertIsInstance(oracle.answers, tuple)
                    for case, told in zip(cases, row):
                        self.assertEqual(oracle.case_answer(case=case), told)
                    for mixture in some_mixtures(rnd, k, m):
                        wanted = row[cases.index(case_of(k, mixture, d))]
                        self.assertEqual(oracle.mixture_answer(mixture=mixture), wanted)

    def test_later_changes(self):
        answers = [1, 0, 0]
        oracle = Oracle(2, 2, 1, answers)
        answers[0] = 9
        self.assertEqual(oracle.answers, (1, 0, 0))
        self.assertEqual(oracle.case_answer(((0,), (0, 0))), 1)

    def test_equal(self):
        self.assertTrue(Oracle(2, 2, 1, [1, 0, 0]) == Oracle(2, 2, 1, (1, 0, 0)))
        self.assertFalse(Oracle(2, 2, 1, [1, 0, 0]) != Oracle(2, 2, 1, (1, 0, 0)))
        self.assertFalse(Oracle(2, 2, 1, [1, 0, 0]) == Oracle(3, 2, 1, [1, 0, 0]))
        self.assertFalse(Oracle(2, 2, 1, [1, 0, 0]) == Oracle(2, 2, 1, [1, 0, 1]))
        self.assertFalse(Oracle(2, 1, 1, [1]) == Oracle(2, 1, 3, [1]))
        for value in ODD + ((2, 1, 1, (1,)),):
            self.assertFalse(Oracle(2, 1, 1, [1]) == value)

    def test_refused(self):
        for value in ODD + (0, 1, 6):
            self.assertEqual(error_of(Oracle, value, 2, 1, [0] * 3), ("InvalidBowl", 0), value)
            self.assertEqual(error_of(Oracle, value, None, None, None), ("InvalidBowl", 0), value)
        for value in ODD + (0, 5, 1.0):
            self.assertEqual(error_of(Oracle, 2, value, 1, [0] * 3), ("InvalidQuestion", 1), value)
            self.assertEqual(error_of(Oracle, 2, value, None, None), ("InvalidQuestion", 1), value)
        for value in ODD + (0, 2, 4, 31, 33, 999, 1.0):
            self.assertEqual(error_of(Oracle, 2, 2, value, [0] * 3), ("InvalidQuestion", 2), value)
            self.assertEqual(error_of(Oracle, 2, 2, value, None), ("InvalidQuestion", 2), value)

    def test_400_cases(self):
        self.assertEqual(case_number(4, 6), 400)
        self.assertEqual(len(Oracle(5, 4, 6, [0] * 400).answers), 400)
        for k, m, d in ((5, 4, 7), (2, 4, 7), (3, 3, 19), (2, 3, 19), (4, 4, 29)):
            self.assertEqual(error_of(Oracle, k, m, d, [0] * case_number(m, d)), ("InvalidQuestion", 2))
        self.assertEqual(len(Oracle(5, 3, 18, [0] * 381).answers), 381)
        self.assertEqual(len(Oracle(2, 2, 29, [0] * 31).answers), 31)

    def test_wrong_answers(self):
        for k in SIZES:
            for value in NO_SEQUENCES + ([], [0] * 2, [0] * 4, (0,) * 500):
                self.assertEqual(error_of(Oracle, k, 2, 1, value), ("InvalidQuestion", 6), value)
            for value in [value for value in ODD if value != 10 ** 30] + [1.0]:
                for at in range(5):
                    row = [0] * at + [value, None]
                    self.assertEqual(error_of(Oracle, k, 2, 1, row), ("InvalidQuestion", 3 + at), value)
        self.assertEqual(Oracle(2, 1, 1, [10 ** 30]).answers, (10 ** 30,))

    def test_no_case(self):
        oracle = Oracle(2, 2, 3, list(range(5)))
        wrong = [[(0,), (1, 0)], ((0,), (1, 0), 0), ((0,), (4, 0)), ((1,), (1, 0)), ((0, 1), (1, 1)), deep_value(99)]
        for value in wrong + list(ODD):
            self.assertEqual(error_of(oracle.case_answer, value), ("InvalidQuestion", 0), value)

    def test_paired(self):
        rnd = generator(2)
        for k in SIZES:
            for _ in range(30):
                m = rnd.randrange(1, 5)
                one, other = [random_oracle(rnd, k, m, answers=3) for _ in range(2)]
                modulus = math.lcm(one.modulus, other.modulus)
                if modulus > 30 or case_number(m, modulus) > 400:
                    self.assertEqual(error_of(paired, one, other), ("Refused", 0))
                    continue
                both = paired(one=one, other=other)
                self.assertEqual((both.k, both.ingredients, both.modulus), (k, m, modulus))
                scale = 1 + max(other.answers)
                for mixture in some_mixtures(rnd, k, m):
                    wanted = one.mixture_answer(mixture) * scale + other.mixture_answer(mixture)
                    self.assertEqual(both.mixture_answer(mixture), wanted)
        one, other = random_oracle(rnd, 2, 2, 5), random_oracle(rnd, 2, 2, 7)
        self.assertEqual(error_of(paired, one, other), ("Refused", 0))
        one, other = random_oracle(rnd, 5, 4, 2), random_oracle(rnd, 5, 4, 3)
        self.assertEqual(paired(one, other).modulus, 6)
        one, other = random_oracle(rnd, 2, 3, 3), random_oracle(rnd, 2, 3, 7)
        self.assertEqual(error_of(paired, one, other), ("Refused", 0))


def depends_only(oracle, some, divisor):
    """Whether the answers of mixtures of just these ingredients depend on remainders modulo a divisor alone."""
    told = {}
    for case in all_cases(oracle.ingredients, oracle.modulus):
        if case[0] == some:
            told.setdefault(tuple(rest % divisor for rest in case[1]), set()).add(oracle.case_answer(case))
    return all(len(answers) == 1 for answers in told.values())


class ModuliTest(unittest.TestCase):
    def test_least_moduli(self):
        rnd = generator(3)
        for k in SIZES:
            for _ in range(40):
                oracle = random_oracle(rnd, k, answers=rnd.randrange(1, 4))
                told = set_moduli(oracle=oracle)
                m, d = oracle.ingredients, oracle.modulus
                sets = sorted(some for many in range(1, m + 1) for some in itertools.combinations(range(m), many))
                self.assertEqual([some for some, _ in told], sets)
                for some, modulus in told:
                    wanted = min(e for e in range(1, d + 1) if d % e == 0 and depends_only(oracle, some, e))
                    self.assertEqual(modulus, wanted)
                self.assertEqual(settling_modulus(oracle=oracle), math.lcm(*(modulus for _, modulus in told)))

    def test_with_modulus(self):
        rnd = generator(4)
        for k in SIZES:
            for _ in range(12):
                oracle = random_oracle(rnd, k, answers=2)
                settling = settling_modulus(oracle)
                for modulus in moduli_of(k, 30):
                    self.check(rnd, oracle, modulus, modulus % settling == 0)

    def check(self, rnd, oracle, modulus, settles):
        k, m = oracle.k, oracle.ingredients
        if settles and case_number(m, modulus) > 400:
            self.assertEqual(error_of(with_modulus, oracle, modulus), ("Refused", 1))
            return
        told = with_modulus(oracle=oracle, modulus=modulus)
        if settles:
            self.assertEqual(told[0], "settled")
            other = told[1]
            self.assertEqual((other.k, other.ingredients, other.modulus), (k, m, modulus))
            for mixture in some_mixtures(rnd, k, m, 10):
                self.assertEqual(other.mixture_answer(mixture), oracle.mixture_answer(mixture))
            self.assertEqual(agree(oracle, other), ("agree",))
        else:
            word, one, other = told
            self.assertEqual(word, "pair")
            self.assertTrue(is_mixture(k, m, one) and is_mixture(k, m, other))
            self.assertEqual(case_of(k, one, modulus), case_of(k, other, modulus))
            self.assertNotEqual(oracle.mixture_answer(one), oracle.mixture_answer(other))

    def test_one_case_apart(self):
        rnd = generator(8)
        for k, m, d in ((2, 2, 9), (2, 2, 15), (2, 3, 9), (5, 3, 4), (5, 4, 4), (3, 2, 8), (4, 3, 9), (3, 3, 10)):
            cases = all_cases(m, d)
            for at in rnd.sample(range(len(cases)), min(len(cases), 12)):
                oracle = Oracle(k, m, d, [int(other == at) for other in range(len(cases))])
                settling = settling_modulus(oracle)
                self.assertEqual(settling, d if len(cases[at][0]) > 1 else 1)
                for modulus in moduli_of(k, 30):
                    self.check(rnd, oracle, modulus, modulus % settling == 0)

    def test_no_modulus(self):
        oracle = Oracle(2, 2, 3, list(range(5)))
        for value in ODD + (0, 2, 4, 31, 33, 997, 3.0):
            self.assertEqual(error_of(with_modulus, oracle, value), ("InvalidQuestion", 1), value)

    def test_many_cases(self):
        oracle = Oracle(5, 4, 1, [0] * 15)
        self.assertEqual(with_modulus(oracle, 6)[0], "settled")
        self.assertEqual(error_of(with_modulus, oracle, 7), ("Refused", 1))
        self.assertEqual(error_of(with_modulus, oracle, 29), ("Refused", 1))
        rnd = generator(5)
        unsettled = random_oracle(rnd, 5, 4, 6, 9, 6)
        self.assertEqual(with_modulus(unsettled, 7)[0], "pair")
        self.assertEqual(with_modulus(unsettled, 29)[0], "pair")

    def test_reduced(self):
        rnd = generator(6)
        for k in SIZES:
            for _ in range(20):
                oracle = random_oracle(rnd, k)
                less = reduced(oracle=oracle)
                self.assertEqual(less.modulus, settling_modulus(oracle))
                self.assertEqual(settling_modulus(less), less.modulus)
                self.assertTrue(reduced(less) == less)
                for mixture in some_mixtures(rnd, k, oracle.ingredients):
                    self.assertEqual(less.mixture_answer(mixture), oracle.mixture_answer(mixture))

    def test_agree(self):
        rnd = generator(7)
        for k in SIZES:
            for _ in range(60):
                m = rnd.randrange(1, 5)
                one = random_oracle(rnd, k, m, finer=1)
                other = rnd.choice([self.same(rnd, one), random_oracle(rnd, k, m)])
                told = agree(one=one, other=other)
                if reduced(one) == reduced(other):
                    self.assertEqual(told, ("agree",))
                else:
                    self.assertEqual(told[0], "differ")
                    self.assertTrue(is_mixture(k, m, told[1]))
                    self.assertNotEqual(one.mixture_answer(told[1]), other.mixture_answer(told[1]))

    def same(self, rnd, oracle):
        """An oracle that answers by the contained ingredients alike, or nearly so."""
        told = {}
        for case in all_cases(oracle.ingredients, oracle.modulus):
            told[case[0]] = oracle.case_answer(case)
        modulus = rnd.choice(good_moduli(oracle.k, oracle.ingredients))
        row = [told[case[0]] for case in all_cases(oracle.ingredients, modulus)]
        if rnd.random() < 0.5:
            row[rnd.randrange(len(row))] += 1
        return Oracle(oracle.k, oracle.ingredients, modulus, row)

    def test_mixtures_of_two_moduli(self):
        one = Oracle(2, 2, 29, [int(rests == (5, 25)) for _, rests in all_cases(2, 29)])
        other = Oracle(2, 2, 27, [0] * 29)
        word, mixture = agree(one, other)
        self.assertEqual((word, contained(mixture)), ("differ", (0, 1)))
        case = case_of(2, mixture, 29)
        self.assertEqual(case, ((0, 1), (5, 25)))
        self.assertTrue(is_mixture(2, 2, mixture_at(2, 29, case, least_depth(2, 29, case), 0)))


if __name__ == "__main__":
    unittest.main()
