"""Points 45, 46 and 47: trails, the least table, and why there is none with fewer labels."""

import itertools
import math
import unittest

from mixlabels.cases import all_cases, blend_cases, case_of
from mixlabels.faults import fault
from mixlabels.least import classes, least_answers, least_label, least_size, least_table
from mixlabels.leastsizes import among_oracle
from mixlabels.lower import is_lower_paper, lower_paper
from mixlabels.mixtures import blended, mixture_of
from mixlabels.oracles import Oracle
from mixlabels.recipes import is_recipe
from mixlabels.tasting import label_of
from mixlabels.trails import case_after, is_trail, parting_trail
from tests.helpers import ODD, SIZES, deep_value, error_of, generator, most_labels, nested, random_recipe
from tests.test_oracles import case_number, good_moduli, random_oracle


def pure(oracle, i):
    return (i,), tuple(int(i == j) % oracle.modulus for j in range(oracle.ingredients))


def plain_after(oracle, case, trail):
    for row in trail:
        case = blend_cases(oracle.k, oracle.modulus, [case] + [pure(oracle, i) for i in row])
    return case


def moves_of(oracle):
    return list(itertools.combinations_with_replacement(range(oracle.ingredients), oracle.k - 1))


def plain_trail(oracle, one, other):
    """The first of the shortest partings, by a walk along all trails, shorter ones ahead."""
    rows, seen = [((), one, other)], {(one, other)}
    while rows:
        for trail, here, there in rows:
            if oracle.case_answer(here) != oracle.case_answer(there):
                return trail
        longer = []
        for trail, here, there in rows:
            for move in moves_of(oracle):
                ends = plain_after(oracle, here, (move,)), plain_after(oracle, there, (move,))
                if ends not in seen:
                    seen.add(ends)
                    longer.append((trail + (move,),) + ends)
        rows = longer
    return None


def drawn_oracle(rnd, k, most=40, m=None):
    """An oracle with few cases, of many kinds."""
    m = m or rnd.randrange(1, 5)
    d = rnd.choice([d for d in good_moduli(k, m) if case_number(m, d) <= most])
    kind = rnd.randrange(4)
    if kind == 0:
        return random_oracle(rnd, k, m, d, rnd.randrange(1, 4))
    cases = all_cases(m, d)
    if kind == 1:
        rare = rnd.choice(cases)
        return Oracle(k, m, d, [int(case == rare) for case in cases])
    if kind == 2:
        weights = [rnd.randrange(d) for _ in range(m)]
        value = rnd.randrange(d)
        return Oracle(k, m, d, [
            int(sum(weight * rest for weight, rest in zip(weights, case[1])) % d == value) for case in cases
        ])
    told = {case[0]: rnd.randrange(2) for case in cases}
    return Oracle(k, m, d, [told[case[0]] for case in cases])


class TrailTest(unittest.TestCase):
    def test_after(self):
        rnd = generator(1)
        for k in SIZES:
            for _ in range(40):
                oracle = drawn_oracle(rnd, k)
                m = oracle.ingredients
                recipe = random_recipe(rnd, k, m, 2)
                trail = tuple(rnd.choice(moves_of(oracle)) for _ in range(rnd.randrange(4)))
                self.assertIs(is_trail(oracle=oracle, value=trail), True)
                case = case_of(k, mixture_of(k, m, recipe), oracle.modulus)
                for row in trail:
                    recipe = (recipe,) + row
                wanted = case_of(k, mixture_of(k, m, recipe), oracle.modulus)
                self.assertEqual(case_after(oracle=oracle, case=case, trail=trail), wanted)
                self.assertEqual(case_after(oracle, case, ()), case)

    def test_is_trail(self):
        oracle = Oracle(4, 3, 1, [0] * 7)
        for value in ((), ((0, 0, 0),), ((0, 1, 2), (2, 2, 2)), ((0, 0, 2),) * 50):
            self.assertIs(is_trail(oracle, value), True)
        wrong = [
            [], [(0, 0, 0)], ([0, 0, 0],), ((0, 0),), ((0, 0, 0, 0),), ((0, 1, 0),), ((2, 1, 1),), ((0, 0, 3),), (0, 0, 0),
            ((0, 0, True),), ((-1, 0, 0),), ((0, 0, 0), None), ((0, 0, 0), ()), (((0,), 0, 0),), ("000",), deep_value(200),
            ((0, 0, 0.0),), ((0, 1, None),),
        ]
        for value in wrong + [value for value in ODD if value != ()]:
            self.assertIs(is_trail(oracle, value), False, value)
        self.assertIs(is_trail(Oracle(2, 1, 1, [0]), ((0,),)), True)

    def test_first_of_the_shortest(self):
        rnd = generator(2)
        for k in SIZES:
            lengths = set()
            for _ in range(25):
                oracle = drawn_oracle(rnd, k, 24)
                cases = all_cases(oracle.ingredients, oracle.modulus)
                size = least_size(oracle)
                for _ in range(6):
                    one, other = rnd.choice(cases), rnd.choice(cases)
                    told = parting_trail(oracle=oracle, one=one, other=other)
                    self.assertEqual(told, plain_trail(oracle, one, other))
                    lengths.add(None if told is None else len(told))
                    if told is not None:
                        self.assertTrue(is_trail(oracle, told))
                        ends = [case_after(oracle, case, told) for case in (one, other)]
                        self.assertNotEqual(*[oracle.case_answer(case) for case in ends])
                        self.assertLessEqual(len(told), size - len(set(oracle.answers)))
                self.assertIsNone(parting_trail(oracle, cases[0], cases[0]))
            self.assertLessEqual({None, 0, 1}, lengths)

    def test_long_partings(self):
        for k in SIZES:
            d = {2: 29, 3: 29, 4: 29, 5: 29}[k]
            cases = all_cases(2, d)
            oracle = Oracle(k, 2, d, [int(case == ((0, 1), (0, 1))) for case in cases])
            longest = 0
            for one, other in itertools.combinations(cases[1:-1:3], 2):
                told = parting_trail(oracle, one, other)
                self.assertEqual(told, plain_trail(oracle, one, other))
                longest = max(longest, len(told))
            self.assertGreater(longest, 1)

    def test_what_is_alike_stays_so(self):
        rnd = generator(3)
        for k in SIZES:
            for _ in range(20):
                oracle = drawn_oracle(rnd, k)
                m, d = oracle.ingredients, oracle.modulus
                told = dict(zip(all_cases(m, d), classes(oracle)))
                mixtures = [mixture_of(k, m, random_recipe(rnd, k, m, 3)) for _ in range(30)]
                for one, other in itertools.combinations(mixtures, 2):
                    if told[case_of(k, one, d)] == told[case_of(k, other, d)]:
                        rest = [rnd.choice(mixtures) for _ in range(k - 1)]
                        ends = [blended(k, [mixture] + rest) for mixture in (one, other)]
                        self.assertEqual(*[oracle.mixture_answer(end) for end in ends])
                        self.assertEqual(*[told[case_of(k, end, d)] for end in ends])


class LeastTest(unittest.TestCase):
    def test_classes(self):
        rnd = generator(4)
        for k in SIZES:
            for _ in range(15):
                oracle = drawn_oracle(rnd, k, 20)
                cases = all_cases(oracle.ingredients, oracle.modulus)
                firsts, wanted = [], []
                for case in cases:
                    at = [at for at, first in enumerate(firsts) if plain_trail(oracle, first, case) is None]
                    if not at:
                        at = [len(firsts)]
                        firsts.append(case)
                    self.assertEqual(len(at), 1)
                    wanted.append(at[0])
                self.assertEqual(classes(oracle=oracle), tuple(wanted))
                self.assertEqual(least_size(oracle=oracle), len(firsts))
                self.assertEqual(least_answers(oracle=oracle), tuple(oracle.case_answer(case) for case in firsts))

    def test_tables(self):
        rnd = generator(5)
        for k in SIZES:
            kinds = set()
            for _ in range(40):
                oracle = drawn_oracle(rnd, k, 40)
                m = oracle.ingredients
                many = least_size(oracle)
                kinds.add(many > most_labels(k))
                if many > most_labels(k):
                    self.assertEqual(error_of(least_table, oracle), ("Refused", many))
                    continue
                table, naming = least_table(oracle=oracle)
                self.assertEqual((table.k, table.labels, len(naming), fault(table)), (k, many, m, None))
                self.assertIsInstance(naming, tuple)
                for _ in range(10):
                    recipe = random_recipe(rnd, k, m, 3)
                    mixture = mixture_of(k, m, recipe)
                    label = label_of(table, naming, recipe)
                    self.assertEqual(least_label(oracle=oracle, mixture=mixture), label)
                    self.assertEqual(least_answers(oracle)[label], oracle.mixture_answer(mixture))
            self.assertEqual(kinds, {True, False})

    def test_examples(self):
        self.assertEqual(classes(Oracle(2, 1, 29, [7])), (0,))
        self.assertEqual(least_answers(Oracle(2, 1, 29, [7])), (7,))
        self.assertEqual(classes(Oracle(3, 2, 1, [1, 1, 0])), (0, 0, 1))
        self.assertEqual(classes(Oracle(3, 2, 1, [1, 0, 1])), (0, 1, 2))
        self.assertEqual(classes(Oracle(5, 2, 1, [4, 4, 4])), (0, 0, 0))
        self.assertEqual(least_size(Oracle(2, 4, 1, list(range(15)))), 15)
        self.assertEqual(error_of(least_table, Oracle(2, 4, 1, list(range(15)))), ("Refused", 15))
        self.assertEqual(least_table(Oracle(2, 2, 1, [1, 1, 0]))[1], (0, 1))

    def test_400_cases(self):
        oracle = Oracle(5, 4, 6, list(range(400)))
        self.assertEqual(classes(oracle), tuple(range(400)))
        self.assertEqual(error_of(least_table, oracle), ("Refused", 400))
        self.assertEqual(least_answers(oracle), tuple(range(400)))
        self.assertEqual(least_label(oracle, (0, (0, 0, 0, 1))), 399)


class LowerTest(unittest.TestCase):
    def test_papers(self):
        rnd = generator(6)
        for k in SIZES:
            for _ in range(25):
                oracle = drawn_oracle(rnd, k, 60)
                m, d = oracle.ingredients, oracle.modulus
                many = least_size(oracle)
                told = lower_paper(oracle=oracle)
                recipes, trails = told
                self.assertTrue(all(is_recipe(k, m, recipe) for recipe in recipes))
                self.assertEqual([least_label(oracle, mixture_of(k, m, recipe)) for recipe in recipes], list(range(many)))
                self.assertEqual(len(trails), math.comb(many, 2))
                for trail, (i, j) in zip(trails, itertools.combinations(range(many), 2)):
                    ends = [recipes[i], recipes[j]]
                    for row in trail:
                        ends = [(end,) + row for end in ends]
                    answers = [oracle.case_answer(case_of(k, mixture_of(k, m, end), d)) for end in ends]
                    self.assertNotEqual(*answers)
                self.assertIs(is_lower_paper(oracle=oracle, n=many, value=told), True)
                self.check_parts(rnd, oracle, many, told)

    def check_parts(self, rnd, oracle, many, paper):
        """Some of the recipes, in another order, make up a paper, too."""
        recipes, trails = paper
        pairs = dict(zip(itertools.combinations(range(many), 2), trails))
        for n in range(many + 1):
            some = rnd.sample(range(many), n)
            rows = [pairs[min(pair), max(pair)] for pair in itertools.combinations(some, 2)]
            value = tuple(recipes[i] for i in some), tuple(rows)
            self.assertIs(is_lower_paper(oracle, n, value), True)
            self.assertIs(is_lower_paper(oracle, n + 1, value), False)
        longer = recipes + (random_recipe(rnd, oracle.k, oracle.ingredients, 2),)
        rows = [pairs.get(pair, ()) for pair in itertools.combinations(range(many + 1), 2)]
        self.assertIs(is_lower_paper(oracle, many + 1, (longer, tuple(rows))), False)

    def test_any_value(self):
        oracle = Oracle(2, 2, 1, [1, 0, 1])
        good = ((0, (0, 1), 1), ((), ((1,),), ()))
        self.assertIs(is_lower_paper(oracle, 3, lower_paper(oracle)), True)
        self.assertIs(is_lower_paper(oracle, 3, good), True)
        wrong = [
            list(good), (list(good[0]), good[1]), (good[0], list(good[1])), good[:1], good + ((),), (good[0], good[1][:2]),
            (good[0][:2], good[1]), ((0, [0, 1], 1), good[1]), ((0, (0, 2), 1), good[1]), ((0, True, 1), good[1]),
            ((0, (0, 1), 1), ((), (), ())), (good[0], ((), ([1],), ())), (good[0], ((), ((1, 1),), ())),
            (good[0], ((), ((2,),), ())), (good[0], (None, ((1,),), ())), ((0, nested(13), 1), good[1]), deep_value(100),
            (good[1], good[0]), ((0, 1, (0, 1)), good[1]), (good[0] + (0,), good[1] + ((), (), ())),
        ]
        for n in (0, 1, 2, 3, 4):
            for value in wrong + list(ODD):
                if n != 0 or value != ((), ()):
                    self.assertIs(is_lower_paper(oracle, n, value), False, value)
        self.assertIs(is_lower_paper(oracle, 0, ((), ())), True)
        self.assertIs(is_lower_paper(oracle, 1, (((0, 1),), ())), True)
        self.assertIs(is_lower_paper(oracle, 2, good), False)
        self.assertIs(is_lower_paper(oracle, 10 ** 20, good), False)
        self.assertIs(is_lower_paper(oracle, 2, ((0, 1), (((0,), (1,)),))), False)

    def test_400_labels(self):
        oracle = Oracle(5, 4, 6, list(range(400)))
        told = lower_paper(oracle)
        self.assertEqual(set(told[1]), {()})
        self.assertIs(is_lower_paper(oracle, 400, told), True)
        self.assertIs(is_lower_paper(oracle, 399, told), False)

    def test_many_labels_with_long_trails(self):
        for k in SIZES:
            oracle = among_oracle(k, 4, (0, 1, 2), 3)
            many = least_size(oracle)
            self.assertEqual(many, 8)
            told = lower_paper(oracle)
            self.assertIs(is_lower_paper(oracle, many, told), True)
            self.assertEqual(max(len(trail) for trail in told[1]), {2: 2, 3: 1, 4: 1, 5: 1}[k])


if __name__ == "__main__":
    unittest.main()
