"""Points 23 and 24: chains, searches and bounds."""

import unittest
from fractions import Fraction

from mixlabels.cases import all_cases, case_of
from mixlabels.chains import Chain
from mixlabels.fillings import count_of, mixture_at
from mixlabels.mixtures import contained, counts_at, is_mixture, mixture_of
from mixlabels.ratios import is_fraction, made
from mixlabels.turns import Search, by_labels, on_case
from tests.helpers import ODD, SIZES, error_of, generator, moduli_of, random_recipe


def plain_walk(k, modulus, depth, start, goal):
    """All mixtures of the chain as counts, and all moves, one unit after another."""
    have = list(counts_at(k, start, depth))
    want = counts_at(k, goal, depth)
    rows, moves = [tuple(have)], []
    while tuple(have) != want:
        a = next(i for i in range(len(have)) if have[i] > want[i])
        b = next(i for i in range(len(have)) if have[i] < want[i])
        have[a] -= modulus
        have[b] += modulus
        rows.append(tuple(have))
        moves.append((a, b))
    return rows, moves


class ChainTest(unittest.TestCase):
    def test_against_a_walk(self):
        rnd = generator(1)
        for k in SIZES:
            for _ in range(60):
                d = rnd.choice(moduli_of(k, 30))
                m = rnd.randrange(1, 5)
                case = rnd.choice(all_cases(m, d) if d < 8 or m < 3 else all_cases(m, 1))
                d = d if d < 8 or m < 3 else 1
                n = {2: 6, 3: 4, 4: 3, 5: 3}[k]
                many = count_of(k, d, case, n)
                if many:
                    start, goal = [mixture_at(k, d, case, n, rnd.randrange(many)) for _ in range(2)]
                    self.check(k, d, n + rnd.randrange(2), start, goal)

    def check(self, k, d, depth, start, goal):
        chain = Chain(k=k, modulus=d, depth=depth, start=start, goal=goal)
        told = (chain.k, chain.modulus, chain.depth, chain.start, chain.goal)
        self.assertEqual(told, (k, d, depth, start, goal))
        rows, moves = plain_walk(k, d, depth, start, goal)
        self.assertEqual(chain.length, len(moves))
        self.assertEqual([jump[:2] for jump in chain.jumps for _ in range(jump[2])], moves)
        self.assertLess(len(chain.jumps), len(contained(start)))
        self.assertIsInstance(chain.jumps, tuple)
        for at, row in enumerate(rows):
            mixture = chain.mixture_after(index=at)
            self.assertTrue(is_mixture(k, len(row), mixture))
            self.assertEqual(counts_at(k, mixture, depth), row)
            self.assertEqual(case_of(k, mixture, d), case_of(k, start, d))
        for at, move in enumerate(moves):
            self.assertEqual(chain.jump_at(index=at), move)
        self.assertEqual(error_of(chain.jump_at, len(moves)), ("Refused", 0))
        self.assertEqual(error_of(chain.mixture_after, len(moves) + 1), ("Refused", 0))

    def test_length_0(self):
        for k in SIZES:
            chain = Chain(k, 1, 0, (0, (1, 0)), (0, (1, 0)))
            self.assertEqual((chain.jumps, chain.length), ((), 0))
            self.assertEqual(chain.mixture_after(0), (0, (1, 0)))
            self.assertEqual(error_of(chain.jump_at, 0), ("Refused", 0))
            self.assertEqual(error_of(chain.mixture_after, 1), ("Refused", 0))

    def test_any_index(self):
        chain = Chain(2, 1, 2, (2, (1, 3)), (2, (3, 1)))
        self.assertEqual(chain.length, 2)
        for value in ODD + (3, 1.0):
            self.assertEqual(error_of(chain.mixture_after, value), ("Refused", 0), value)
            self.assertEqual(error_of(chain.jump_at, value), ("Refused", 0), value)
        self.assertEqual(error_of(chain.jump_at, 2), ("Refused", 0))
        self.assertEqual(chain.mixture_after(2), (2, (3, 1)))

    def test_great_numbers(self):
        for k in SIZES:
            modulus = k ** 60 - 1
            start = (90, (1, k ** 90 - 1))
            goal = (90, (1 + 1002 * modulus, k ** 90 - 1 - 1002 * modulus))
            chain = Chain(k, modulus, 130, start, goal)
            self.assertEqual(chain.length, 1002 * k ** 40)
            self.assertEqual(chain.jumps, ((1, 0, 1002 * k ** 40),))
            self.assertEqual(chain.mixture_after(chain.length), goal)
            self.assertEqual(counts_at(k, chain.mixture_after(7), 130)[0], k ** 40 + 7 * modulus)
            self.assertEqual(chain.jump_at(chain.length - 1), (1, 0))

    def test_unlike_cases(self):
        wrong = [
            (1, (0, (1, 0)), (0, (0, 1))), (1, (0, (1, 0)), (0, (1,))), (3, (1, (1, 1)), (2, (1, 3))),
            (1, (1, (1, 1, 0)), (1, (1, 0, 1))), (7, (1, (1, 1)), (1, (1, 1, 0))), (1, (1, (1, 1)), (0, (1, 0))),
        ]
        for modulus, start, goal in wrong:
            self.assertEqual(error_of(Chain, 2, modulus, 5, start, goal), ("InvalidPair", 3))


class SearchTest(unittest.TestCase):
    def test_search(self):
        rnd = generator(2)
        chain = Chain(2, 1, 20, (1, (1, 1)), (10, (1, 1023)))
        for _ in range(200):
            low = rnd.randrange(chain.length)
            high = rnd.randrange(low + 1, chain.length + 1)
            turn = rnd.randrange(low + 1, high + 1)
            search = Search(chain=chain, low=low, high=high)
            steps = 0
            while search.middle is not None:
                self.assertEqual(search.middle, (search.low + search.high) // 2)
                self.assertIs(search.chain, chain)
                search = search.halved(is_like_low=search.middle < turn)
                steps += 1
            self.assertEqual((search.low, search.high), (turn - 1, turn))
            self.assertLessEqual(steps, (high - low).bit_length())
            for answer in (True, False):
                self.assertEqual(error_of(search.halved, answer), ("Refused", 0))

    def test_objects_stay(self):
        search = Search(None, 2, 7)
        self.assertEqual((search.low, search.high, search.middle), (2, 7, 4))
        like, unlike = search.halved(True), search.halved(False)
        self.assertEqual((like.low, like.high, like.middle), (4, 7, 5))
        self.assertEqual((unlike.low, unlike.high, unlike.middle), (2, 4, 3))
        self.assertEqual((search.low, search.high, search.middle), (2, 7, 4))
        self.assertIsNone(Search(None, 0, 1).middle)
        self.assertEqual(Search(None, 0, 2).middle, 1)


def weigh(k, weights, mixture):
    n, counts = mixture
    return sum(Fraction(weight * count, k ** n) for weight, count in zip(weights, counts))


class BoundTest(unittest.TestCase):
    def check(self, k, d, case, weights, bound):
        told = on_case(k=k, modulus=d, case=case, weights=weights, bound=bound)
        limit = Fraction(*bound)
        inside = [weights[i] for i in case[0]]
        if min(inside) >= limit:
            self.assertEqual(told, ("all",))
        elif max(inside) <= limit:
            self.assertEqual(told, ("none",))
        else:
            self.assertEqual(told[0], "turn")
            self.check_turn(k, d, case, weights, limit, told[1:])

    def check_turn(self, k, d, case, weights, limit, turn):
        depth, below, above = turn
        self.assertTrue(0 <= depth <= 400)
        for mixture in (below, above):
            self.assertTrue(is_mixture(k, len(weights), mixture))
            self.assertLessEqual(mixture[0], depth)
            self.assertEqual(case_of(k, mixture, d), case)
        self.assertLess(weigh(k, weights, below), limit)
        self.assertGreaterEqual(weigh(k, weights, above), limit)
        moved = [b - a for a, b in zip(counts_at(k, below, depth), counts_at(k, above, depth))]
        self.assertEqual(sorted(unit for unit in moved if unit), [-d, d])

    def test_random(self):
        rnd = generator(3)
        for k in SIZES:
            for _ in range(150):
                m = rnd.randrange(1, 5)
                d = rnd.choice(moduli_of(k, 30) if m < 3 else moduli_of(k, 6))
                weights = [rnd.randrange(-4, 5) for _ in range(m)]
                bound = made(rnd.randrange(-30, 31), rnd.choice([1, 2, 3, k, k ** 3, 7]))
                self.check(k, d, rnd.choice(all_cases(m, d)), rnd.choice([weights, tuple(weights)]), bound)

    def test_long_bounds(self):
        rnd = generator(4)
        for k in SIZES:
            for _ in range(20):
                d = rnd.choice(moduli_of(k, 30)[-3:])
                low, high = sorted(rnd.sample(range(-10 ** 17, 10 ** 17), 2))
                bottom = rnd.randrange(10 ** 17, 10 ** 18)
                top = rnd.choice([low * bottom + 1, high * bottom - 1]) if abs(low) < 5 else low * 3 + 1
                bound = made(top, bottom if abs(low) < 5 else 3)
                self.assertTrue(is_fraction(bound))
                self.check(k, d, rnd.choice(all_cases(2, d)), (low, high), bound)
            for bound in ((1, 10 ** 18), (10 ** 18 - 1, 10 ** 18), (1, 10 ** 18 - 1)):
                for case in all_cases(3, 1):
                    self.check(k, 1, case, (0, 1, 0), bound)
                for case in all_cases(2, moduli_of(k, 30)[-1]):
                    self.check(k, moduli_of(k, 30)[-1], case, (0, 1), bound)

    def test_all_small_bounds(self):
        for k in SIZES:
            for d in moduli_of(k, 7):
                for case in all_cases(3, d)[::3]:
                    for great in range(1, 6):
                        for top in range(-1, 2 * great + 2):
                            self.check(k, d, case, (0, great, great), made(top, 2))
                            self.check(k, d, case, (great, 0, 1), made(top, 2))

    def test_edges(self):
        both, one = ((0, 1), (0, 0)), ((1,), (0, 0))
        self.assertEqual(on_case(2, 1, both, (1, 1), (1, 1)), ("all",))
        self.assertEqual(on_case(2, 1, both, (1, 1), (2, 1)), ("none",))
        self.assertEqual(on_case(2, 1, both, (1, 2), (1, 1)), ("all",))
        self.assertEqual(on_case(2, 1, both, (1, 2), (2, 1)), ("none",))
        self.assertEqual(on_case(2, 1, one, (9, 2), (2, 1)), ("all",))
        self.assertEqual(on_case(2, 1, one, (9, 2), (5, 2)), ("none",))
        self.assertEqual(on_case(2, 1, both, (1, 2), (3, 2))[0], "turn")

    def test_by_labels(self):
        rnd = generator(5)
        for k in SIZES:
            for _ in range(150):
                m = rnd.randrange(1, 5)
                weights = [rnd.randrange(-2, 3) for _ in range(m)]
                bound = made(rnd.randrange(-4, 5), rnd.choice([1, 2]))
                told = by_labels(k=k, ingredients=m, weights=weights, bound=bound)
                limit = Fraction(*bound)
                pairs = [(i, j) for i in range(m) for j in range(m) if weights[i] < limit < weights[j]]
                if pairs:
                    self.assertEqual(told, ("turns",) + min(pairs))
                else:
                    word, oracle = told
                    self.assertEqual((word, oracle.k, oracle.ingredients, oracle.modulus), ("oracle", k, m, 1))
                    for _ in range(20):
                        mixture = mixture_of(k, m, random_recipe(rnd, k, m, 3))
                        wanted = int(weigh(k, weights, mixture) >= limit)
                        self.assertEqual(oracle.mixture_answer(mixture), wanted)


if __name__ == "__main__":
    unittest.main()
