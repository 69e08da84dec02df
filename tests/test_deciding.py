"""Points 40 to 44: what can be decided about questions."""

import math
import unittest

from mixlabels.cases import all_cases, case_of
from mixlabels.deciding import (
    case_answers, failing, oracle_of, parting_mixtures, plain_question, same_answers, settled_sets,
)
from mixlabels.fillings import first_mixture
from mixlabels.mixtures import contained, is_mixture, mixture_of
from mixlabels.oracles import Oracle
from mixlabels.patterns import pattern, patterns
from mixlabels.questions import answer, checked_question, comparisons, question_modulus
from tests.helpers import ODD, SIZES, deep_value, error_of, generator, moduli_of, random_recipe
from tests.test_patterns import drawn_comparisons, is_free, walk
from tests.test_questions import listed, parts, random_question

HUGE = {2: 3 ** 80, 3: 2 ** 130 + 1, 4: 5 ** 40, 5: 2 ** 100}


def case_number(m, d):
    return ((1 + d) ** m - 1) // d


def within_limits(k, m, *questions):
    pairs = {pair for question in questions for pair in comparisons(k, m, question)}
    modulus = math.lcm(*[question_modulus(k, m, question) for question in questions])
    return len(pairs) <= (6 if m < 4 else 3) and modulus <= 30 and case_number(m, modulus) <= 400


def drawn_question(rnd, k, m):
    while True:
        question = rnd.choice([random_question, drawn_by_bounds, nearly_always])(rnd, k, m)
        if within_limits(k, m, question) and inside(question) <= 3:
            return question


def inside(question):
    """Inside how many others the innermost part lies."""
    if question[0] not in ("not", "and", "or"):
        return 0
    return max([1 + inside(part) for part in question[1:]], default=0)


def drawn_by_bounds(rnd, k, m):
    parts_of = [(rnd.choice(["least", "equal"]), c, b) for c, b in drawn_comparisons(rnd, m, rnd.randrange(1, 4))]
    parts_of += [("has", i) for i in range(m) if rnd.random() < 0.4]
    if rnd.random() < 0.5:
        e = rnd.choice(moduli_of(k, 4))
        parts_of.append(("rest", e, tuple(rnd.randrange(3) for _ in range(m)), rnd.randrange(e)))
    parts_of = [rnd.choice([part, ("not", part)]) for part in parts_of]
    return (rnd.choice(["and", "or"]),) + tuple(parts_of)


def nearly_always(rnd, k, m):
    """A question that few mixtures have another answer to than the rest."""
    thin = ("equal", tuple(rnd.randint(-2, 2) for _ in range(m)), rnd.randint(-1, 1))
    word = rnd.choice(["has", "rest"])
    told = ("has", rnd.randrange(m)) if word == "has" else ("rest", moduli_of(k, 3)[-1], (1,) + (0,) * (m - 1), 1)
    return rnd.choice([("or", told, thin), ("and", told, ("not", thin)), thin, ("not", thin), told])


def some_mixtures(rnd, k, m, many=15):
    return [mixture_of(k, m, random_recipe(rnd, k, m, 4)) for _ in range(many)]


def plain_answers(k, m, question, modulus):
    """For each case modulo the modulus all answers, by the patterns of all cases modulo a multiple."""
    whole = math.lcm(modulus, question_modulus(k, m, question))
    pairs = comparisons(k, m, question)
    found = {case: set() for case in all_cases(m, modulus)}
    for case in all_cases(m, whole):
        around = (case[0], tuple(rest % modulus for rest in case[1]))
        for _, mixture in patterns(k, pairs, whole, case):
            found[around].add(answer(k, question, mixture))
    return found


class AlwaysTest(unittest.TestCase):
    def test_failing(self):
        rnd = generator(1)
        for k in SIZES:
            kinds = set()
            for _ in range(50):
                m = rnd.randrange(1, 5)
                question = drawn_question(rnd, k, m)
                if rnd.random() < 0.5:
                    question = ("or", question, ("not", question))
                told = failing(k=k, ingredients=m, question=listed(question))
                kinds.add(told[0])
                if told == ("always",):
                    self.assertTrue(all(answer(k, question, mixture) for mixture in some_mixtures(rnd, k, m)))
                else:
                    self.assertEqual((told[0], len(told)), ("fails", 2))
                    self.assertTrue(is_mixture(k, m, told[1]))
                    self.assertIs(answer(k, question, told[1]), False)
                whole = set().union(*plain_answers(k, m, question, 1).values())
                self.assertEqual(told == ("always",), whole == {True})
            self.assertEqual(kinds, {"always", "fails"})

    def test_one_mixture_fails(self):
        for k in SIZES:
            point = ("equal", (k, 0), 1)
            self.assertEqual(failing(k, 2, ("not", point)), ("fails", (1, (1, k - 1))))
            self.assertEqual(failing(k, 2, ("or", ("not", point), ("rest", k + 1, (1, 0), k))), ("always",))
            self.assertEqual(failing(k, 2, ("not", ("equal", (k + 1, 0), 1))), ("always",))
            thirds = ("and", ("equal", (1, -1, 0), 0), ("equal", (0, 1, -1), 0), ("has", 0))
            told = failing(k, 3, ("not", thirds))
            self.assertEqual(told, ("fails", (1, (1, 1, 1))) if k == 3 else ("always",))
            self.assertEqual(failing(k, 1, ("and",)), ("always",))
            self.assertEqual(failing(k, 1, ("or",)), ("fails", (0, (1,))))
            self.assertEqual(failing(k, 2, ("or", ("has", 0), ("has", 1))), ("always",))
            self.assertEqual(failing(k, 2, ("has", 1)), ("fails", (0, (1, 0))))

    def test_same_answers(self):
        rnd = generator(2)
        for k in SIZES:
            kinds = set()
            for _ in range(60):
                m = rnd.randrange(1, 5)
                one, other = drawn_question(rnd, k, m), drawn_question(rnd, k, m)
                if rnd.random() < 0.5:
                    other = rnd.choice([("not", ("not", one)), ("and", one, one), ("and", ("has", 0), one)])
                if not within_limits(k, m, one, other):
                    continue
                told = same_answers(k=k, ingredients=m, one=one, other=listed(other))
                kinds.add(told[0])
                if told == ("alike",):
                    for mixture in some_mixtures(rnd, k, m):
                        self.assertIs(answer(k, one, mixture), answer(k, other, mixture))
                else:
                    self.assertEqual((told[0], len(told)), ("differ", 2))
                    self.assertTrue(is_mixture(k, m, told[1]))
                    self.assertIsNot(answer(k, one, told[1]), answer(k, other, told[1]))
                both = ("or", ("and", one, other), ("not", ("or", one, other)))
                self.assertEqual(told == ("alike",), failing(k, m, both) == ("always",))
            self.assertEqual(kinds, {"alike", "differ"})
        self.assertEqual(same_answers(2, 2, ("least", (1, 0), 1), ("not", ("has", 1))), ("alike",))
        self.assertEqual(same_answers(3, 2, ("least", (2, 0), 1), ("not", ("least", (0, 2), 1))), ("alike",))
        self.assertEqual(same_answers(2, 2, ("least", (2, 0), 1), ("not", ("least", (0, 2), 1))), ("differ", (1, (1, 1))))


class CaseAnswerTest(unittest.TestCase):
    def test_against_patterns(self):
        rnd = generator(3)
        for k in SIZES:
            kinds = set()
            for _ in range(40):
                m = rnd.randrange(1, 4)
                question = drawn_question(rnd, k, m)
                modulus = rnd.choice(moduli_of(k, 9))
                whole = math.lcm(modulus, question_modulus(k, m, question))
                if case_number(m, whole) > 150:
                    continue
                told = case_answers(k=k, ingredients=m, question=listed(question), modulus=modulus)
                plain = plain_answers(k, m, question, modulus)
                numbers = {(False,): 0, (True,): 1, (False, True): 2}
                wanted = tuple(numbers[tuple(sorted(plain[case]))] for case in all_cases(m, modulus))
                self.assertEqual(told, wanted)
                kinds |= set(told)
            self.assertEqual(kinds, {0, 1, 2})

    def test_facts(self):
        rnd = generator(4)
        for k in SIZES:
            for _ in range(25):
                m = rnd.randrange(2, 4)
                question = drawn_question(rnd, k, m)
                e, pairs = question_modulus(k, m, question), comparisons(k, m, question)
                modulus = e * rnd.choice(moduli_of(k, 3))
                if case_number(m, modulus) > 100 or modulus > 30:
                    continue
                told = dict(zip(all_cases(m, modulus), case_answers(k, m, question, modulus)))
                for case in all_cases(m, e):
                    within = [other for other in told if other[0] == case[0]
                              and tuple(rest % e for rest in other[1]) == case[1]]
                    free = {answer(k, question, mixture) for row, mixture in patterns(k, pairs, e, case)
                            if is_free(pairs, case[0], row)}
                    for other in within:
                        rows = [mixture for _, mixture in patterns(k, pairs, modulus, other)]
                        unlike = {answer(k, question, mixture) for mixture in rows} - free
                        self.assertEqual(told[other] == 2, len(free) == 2 or len(unlike) > 0)

    def test_examples(self):
        self.assertEqual(case_answers(2, 2, ("least", (2, 0), 1), 1), (1, 2, 0))
        self.assertEqual(case_answers(2, 2, ("rest", 3, (1, 0), 1), 1), (1, 2, 0))
        self.assertEqual(case_answers(2, 2, ("rest", 3, (1, 0), 1), 3), (1, 0, 1, 0, 0))
        self.assertEqual(case_answers(2, 2, ("rest", 3, (1, 0), 1), 5), (1, 2, 2, 2, 2, 2, 0))
        self.assertEqual(case_answers(3, 2, ("equal", (3, 0), 1), 2), (0, 0, 2, 0))
        self.assertEqual(case_answers(5, 1, ("and",), 29), (1,))


class PairTest(unittest.TestCase):
    def test_parting_mixtures(self):
        rnd = generator(5)
        for k in SIZES:
            kinds = set()
            for _ in range(40):
                m = rnd.randrange(1, 5)
                question = drawn_question(rnd, k, m)
                oracle = oracle_of(k, m, question)
                for modulus in (1, rnd.choice(moduli_of(k, 30)), question_modulus(k, m, question), HUGE[k],
                                HUGE[k] * question_modulus(k, m, question), rnd.choice(moduli_of(k, 999))):
                    told = parting_mixtures(k=k, ingredients=m, question=listed(question), modulus=modulus)
                    kinds.add(told[0])
                    settles = oracle[0] == "oracle" and modulus % oracle[1].modulus == 0
                    self.assertEqual(told == ("settled",), settles)
                    if not settles:
                        self.check(k, m, question, modulus, told)
            self.assertEqual(kinds, {"settled", "pair"})

    def check(self, k, m, question, modulus, told):
        word, one, other = told
        self.assertEqual(word, "pair")
        self.assertTrue(is_mixture(k, m, one) and is_mixture(k, m, other))
        self.assertEqual(case_of(k, one, modulus), case_of(k, other, modulus))
        self.assertIs(answer(k, question, one), True)
        self.assertIs(answer(k, question, other), False)

    def test_all_kinds_of_pairs(self):
        for k in SIZES:
            e = moduli_of(k, 5)[-1]
            for question in (
                ("least", (2, 0), 1), ("not", ("least", (2, 0), 1)), ("equal", (k, 0), 1), ("not", ("equal", (k, 0), 1)),
                ("rest", e, (1, 0), 1), ("and", ("rest", e, (1, 0), 1), ("not", ("equal", (k, 0), 1))),
                ("or", ("rest", e, (1, 0), 1), ("equal", (k, 0), 1)),
            ):
                for modulus in (1, 7, HUGE[k], HUGE[k] + (2 if k % 2 else 6) * k, 10 ** 200 * k + 1):
                    told = parting_mixtures(k, 2, question, modulus)
                    if told != ("settled",):
                        self.check(k, 2, question, modulus, told)
                    if question[0] in ("least", "equal", "not"):
                        self.assertEqual(told[0], "pair")
                    elif question[0] == "rest":
                        self.assertEqual(told[0], "settled" if modulus % e == 0 else "pair")


class OracleTest(unittest.TestCase):
    def test_oracles(self):
        rnd = generator(6)
        for k in SIZES:
            kinds = set()
            for _ in range(50):
                m = rnd.randrange(1, 5)
                question = drawn_question(rnd, k, m)
                told = oracle_of(k=k, ingredients=m, question=listed(question))
                kinds.add(told[0])
                e = question_modulus(k, m, question)
                settled = 2 not in case_answers(k, m, question, e)
                self.assertEqual(told[0], "oracle" if settled else "none")
                if settled:
                    self.check(rnd, k, m, question, told[1])
                else:
                    self.assertEqual(told, ("none",))
            self.assertEqual(kinds, {"oracle", "none"})

    def check(self, rnd, k, m, question, oracle):
        e = question_modulus(k, m, question)
        self.assertIsInstance(oracle, Oracle)
        self.assertEqual((oracle.k, oracle.ingredients, e % oracle.modulus), (k, m, 0))
        mixtures = some_mixtures(rnd, k, m) + [first_mixture(k, e, case) for case in all_cases(m, e)]
        for mixture in mixtures:
            self.assertEqual(oracle.mixture_answer(mixture), int(answer(k, question, mixture)))
        for modulus in range(1, oracle.modulus):
            if e % modulus == 0:
                self.assertIn(2, case_answers(k, m, question, modulus))

    def test_examples(self):
        self.assertEqual(oracle_of(2, 2, ("has", 0)), ("oracle", Oracle(2, 2, 1, [1, 1, 0])))
        self.assertEqual(oracle_of(2, 2, ("least", (1, 0), 1)), ("oracle", Oracle(2, 2, 1, [1, 0, 0])))
        self.assertEqual(oracle_of(2, 2, ("least", (2, 0), 1)), ("none",))
        self.assertEqual(oracle_of(5, 2, ("equal", (2, 0), 1)), ("oracle", Oracle(5, 2, 1, [0, 0, 0])))
        self.assertEqual(oracle_of(4, 2, ("equal", (2, 0), 1)), ("none",))
        six = ("and", ("rest", 2, (1, 0), 1), ("rest", 3, (0, 0), 0))
        self.assertEqual(oracle_of(5, 2, six)[1].modulus, 2)
        self.assertEqual(oracle_of(2, 1, ("rest", 29, (5,), 5)), ("oracle", Oracle(2, 1, 1, [1])))

    def test_greatest_numbers(self):
        rnd = generator(7)
        six = ("rest", 6, (1, 2, 3, 4), 5)
        self.assertEqual(oracle_of(5, 4, six)[1].modulus, 6)
        self.assertEqual(len(case_answers(5, 4, six, 6)), 400)
        self.assertEqual(error_of(plain_question, 5, 4, six), ("Refused", 2))
        tight = [("least", c, b) for c, b in drawn_comparisons(rnd, 4, 3, 1000)]
        self.check_great(5, 4, ("or", six) + tuple(tight))
        tight = [("least", c, b) for c, b in drawn_comparisons(rnd, 3, 6, 1000)]
        self.check_great(5, 3, ("or", ("rest", 18, (1, 2, 5), 7)) + tuple(tight))
        self.check_great(2, 3, ("and", ("rest", 17, (1, 2, 5), 7)) + tuple(tight))
        wide = ("and",) + (("or", ("rest", 29, (1, 2), 0), ("least", (1000, -1000), -1000), ("has", 1)),) * 74
        self.assertEqual(len(parts(wide)), 297)
        self.check_great(3, 2, wide)
        self.assertEqual(failing(3, 2, wide), ("always",))

    def check_great(self, k, m, question):
        told = failing(k, m, question)
        self.assertTrue(told == ("always",) or answer(k, question, told[1]) is False)
        self.assertEqual(same_answers(k, m, question, ("not", ("not", question))), ("alike",))
        pair = parting_mixtures(k, m, question, HUGE[k])
        if pair != ("settled",):
            self.assertEqual([answer(k, question, mixture) for mixture in pair[1:]], [True, False])
        for i in range(m):
            self.assertIn((i,), settled_sets(k, m, question))


class PlainTest(unittest.TestCase):
    def test_plain_questions(self):
        rnd = generator(8)
        for k in SIZES:
            kinds = {}
            for _ in range(60):
                m = rnd.randrange(1, 5)
                question = drawn_question(rnd, k, m)
                oracle = oracle_of(k, m, question)
                if oracle == ("none",):
                    self.assertEqual(plain_question(k=k, ingredients=m, question=question), ("none",))
                elif case_number(m, oracle[1].modulus) > 30:
                    self.assertEqual(error_of(plain_question, k, m, question), ("Refused", 2))
                else:
                    told = plain_question(k=k, ingredients=m, question=listed(question))
                    self.assertEqual((told[0], len(told)), ("question", 2))
                    self.check(rnd, k, m, question, told[1])
                kinds[oracle[0]] = True
            self.assertEqual(len(kinds), 2)

    def check(self, rnd, k, m, question, plain):
        self.assertEqual(checked_question(k, m, plain), plain)
        self.assertFalse([part for part in parts(plain) if part[0] in ("least", "equal")])
        for mixture in some_mixtures(rnd, k, m):
            self.assertIs(answer(k, plain, mixture), answer(k, question, mixture))
        if within_limits(k, m, question, plain):
            self.assertEqual(same_answers(k, m, question, plain), ("alike",))

    def test_30_cases_and_31(self):
        for k, d in ((3, 28), (5, 28)):
            for question in (("rest", d, (1, 0), 3), ("not", ("rest", d, (1, 0), 3))):
                word, plain = plain_question(k, 2, question)
                self.assertEqual((word, same_answers(k, 2, question, plain)), ("question", ("alike",)))
        for k in SIZES:
            self.assertEqual(error_of(plain_question, k, 2, ("rest", 29, (1, 0), 3)), ("Refused", 2))
            self.assertEqual(plain_question(k, 1, ("rest", 29, (1,), 3))[0], "question")
        for k, m, d in ((2, 3, 3), (4, 3, 3), (5, 3, 3), (3, 4, 1), (3, 3, 2)):
            total = ("not", ("rest", d, (1, 2, 0, 1)[:m], 1)) if d > 1 else ("least", (1, 1, 0, 0), 1)
            word, plain = plain_question(k, m, total)
            self.assertEqual(checked_question(k, m, plain), plain)
            self.assertEqual(same_answers(k, m, total, plain), ("alike",))
        self.assertEqual(plain_question(2, 2, ("least", (2, 0), 1)), ("none",))

    def test_settled_sets(self):
        rnd = generator(9)
        for k in SIZES:
            for _ in range(40):
                m = rnd.randrange(1, 4)
                question = drawn_question(rnd, k, m)
                e = question_modulus(k, m, question)
                if case_number(m, e) > 100:
                    continue
                told = settled_sets(k=k, ingredients=m, question=listed(question))
                plain = plain_answers(k, m, question, e)
                sets = sorted({case[0] for case in plain})
                wanted = [some for some in sets if all(len(row) == 1 for case, row in plain.items() if case[0] == some)]
                self.assertEqual(told, tuple(wanted))
                for i in range(m):
                    self.assertIn((i,), told)

    def test_settled_sets_of_one_bound(self):
        rnd = generator(10)
        for k in SIZES:
            for _ in range(30):
                m = rnd.randrange(1, 5)
                c, b = drawn_comparisons(rnd, m, 1, rnd.choice([1, 2, 1000]))[0]
                sets = sorted({case[0] for case in all_cases(m, 1)})
                unlike = [some for some in sets if min(c[i] for i in some) < b < max(c[i] for i in some)]
                wanted = tuple(some for some in sets if some not in unlike)
                self.assertEqual(settled_sets(k, m, ("least", c, b)), wanted)
        self.assertEqual(settled_sets(2, 3, ("least", (2, 1, 0), 1)), ((0,), (0, 1), (1,), (1, 2), (2,)))


class ErrorTest(unittest.TestCase):
    def check(self, value, at):
        told = ("InvalidQuestion", at)
        for work, more in (
            (failing, ()), (oracle_of, ()), (plain_question, ()), (settled_sets, ()), (case_answers, (3,)),
            (parting_mixtures, (7,)),
        ):
            self.assertEqual(error_of(work, 2, 2, value, *more), told, value)
        self.assertEqual(error_of(same_answers, 2, 2, value, ("has", 0)), told, value)
        self.assertEqual(error_of(same_answers, 2, 2, ("has", 0), value), told, value)
        self.assertEqual(error_of(same_answers, 2, 2, value, ("and", None)), told, value)
        self.assertEqual(error_of(same_answers, 2, 2, ("and", ("has", 0), None), value), ("InvalidQuestion", 2), value)

    def test_wrong_questions(self):
        c = (1, 2)
        wrong = list(ODD) + [
            ("has", 2), ("has", True), ("has", "0"), ("least", (1,), 0), ("least", c, None), ("equal", c, True),
            ("rest", 2, c, 0), ("rest", 31, c, 0), ("rest", 3, c, 3), ("not",), ("nor", ("has", 0)), deep_value(100),
            ("least", (1, 2.0), 0), ("has",), (("has", 0),), "has",
        ]
        for value in wrong:
            self.check(value, 0)
        for value in wrong[::4]:
            self.check(["or", ("has", 0), ["not", value], None], 3)
        self.check(("and",) + (("has", 0),) * 300, 300)

    def test_later_changes(self):
        question = ["or", ["has", 0], ["rest", 3, [1, 0], 2]]
        told = [oracle_of(2, 2, question), plain_question(2, 2, question)]
        question[1][1] = 1
        question[2][2][0] = 5
        self.assertEqual(told[0], oracle_of(2, 2, ("or", ("has", 0), ("rest", 3, (1, 0), 2))))
        self.assertEqual(told[1][1], plain_question(2, 2, ("or", ("has", 0), ("rest", 3, (1, 0), 2)))[1])
        self.assertEqual(contained(first_mixture(2, 3, all_cases(2, 3)[1])), (0, 1))


class WalkTest(unittest.TestCase):
    def test_numbers_hold_on_a_walk(self):
        rnd = generator(11)
        for k in SIZES:
            for _ in range(12):
                m = rnd.randrange(1, 4)
                question = drawn_question(rnd, k, m)
                modulus = rnd.choice(moduli_of(k, 5))
                if case_number(m, math.lcm(modulus, question_modulus(k, m, question))) > 400:
                    continue
                told = case_answers(k, m, question, modulus)
                for number, case in list(zip(told, all_cases(m, modulus)))[:30]:
                    seen = {answer(k, question, mixture) for mixture in walk(rnd, k, modulus, case, 3, 60)}
                    if number != 2:
                        self.assertEqual(seen, {number == 1})

    def test_free_patterns_part_alone(self):
        for k in SIZES:
            pairs = comparisons(k, 2, ("least", (k, 0), 1))
            rows = [pattern(k, pairs, mixture) for mixture in ((1, (1, k - 1)), (2, (1, k * k - 1)))]
            self.assertEqual([is_free(pairs, (0, 1), row) for row in rows], [False, True])


if __name__ == "__main__":
    unittest.main()
