"""Point 38: questions."""

import math
import unittest
from fractions import Fraction

from mixlabels.mixtures import mixture_of, remainders
from mixlabels.questions import answer, checked_question, comparisons, question_modulus
from tests.helpers import ODD, SIZES, deep_value, error_of, generator, moduli_of, random_recipe


def random_question(rnd, k, m, inside=0):
    weights = tuple(rnd.randrange(-3, 4) for _ in range(m))
    word = rnd.choice(["has", "least", "equal", "rest"] if inside > 3 else WORDS)
    if word == "has":
        return word, rnd.randrange(m)
    if word in ("least", "equal"):
        return word, weights, rnd.randrange(-2, 3)
    if word == "rest":
        e = rnd.choice(moduli_of(k, 30))
        return word, e, weights, rnd.randrange(e)
    many = 1 if word == "not" else rnd.randrange(4)
    return (word,) + tuple(random_question(rnd, k, m, inside + 1) for _ in range(many))


WORDS = ["has", "least", "equal", "rest", "not", "and", "or"]


def parts(question):
    """All parts in their order."""
    found = [question]
    if question[0] in ("not", "and", "or"):
        for inner in question[1:]:
            found += parts(inner)
    return found


def plain_answer(k, question, mixture):
    word = question[0]
    n, counts = mixture
    shares = [Fraction(count, k ** n) for count in counts]
    if word == "has":
        return shares[question[1]] > 0
    if word == "least":
        return sum(c * part for c, part in zip(question[1], shares)) >= question[2]
    if word == "equal":
        return sum(c * part for c, part in zip(question[1], shares)) == question[2]
    if word == "rest":
        total = sum(c * rest for c, rest in zip(question[2], remainders(k, mixture, question[1])))
        return total % question[1] == question[3]
    told = [plain_answer(k, inner, mixture) for inner in question[1:]]
    return {"not": lambda: not told[0], "and": lambda: all(told), "or": lambda: any(told)}[word]()


def listed(value):
    """The same with lists in the stead of all tuples."""
    return [listed(inner) for inner in value] if isinstance(value, tuple) else value


class QuestionTest(unittest.TestCase):
    def test_random(self):
        rnd = generator(1)
        for k in SIZES:
            for _ in range(200):
                m = rnd.randrange(1, 5)
                question = random_question(rnd, k, m)
                self.assertEqual(checked_question(k=k, ingredients=m, value=question), question)
                self.assertEqual(checked_question(k, m, listed(question)), question)
                pairs = {inner[1:] for inner in parts(question) if inner[0] in ("least", "equal")}
                self.assertEqual(comparisons(k=k, ingredients=m, question=listed(question)), tuple(sorted(pairs)))
                moduli = [inner[1] for inner in parts(question) if inner[0] == "rest"]
                self.assertEqual(question_modulus(k=k, ingredients=m, question=question), math.lcm(*moduli))
                for _ in range(8):
                    mixture = mixture_of(k, m, random_recipe(rnd, k, m, 3))
                    wanted = plain_answer(k, question, mixture)
                    self.assertIs(answer(k=k, question=question, mixture=mixture), wanted)
                    self.assertIs(answer(k, listed(question), mixture), wanted)

    def test_examples(self):
        half = (1, (1, 1))
        self.assertIs(answer(2, ("and",), half), True)
        self.assertIs(answer(2, ("or",), half), False)
        self.assertIs(answer(2, ("not", ("or",)), half), True)
        self.assertIs(answer(2, ("least", (2, 0), 1), half), True)
        self.assertIs(answer(2, ("least", (2, -1), 1), half), False)
        self.assertIs(answer(2, ("equal", (2, 0), 1), half), True)
        self.assertIs(answer(2, ("equal", (1, -1), 0), (2, (1, 3))), False)
        self.assertIs(answer(2, ("rest", 3, (1, 0), 2), half), True)
        self.assertIs(answer(2, ("rest", 1, (1, 0), 0), half), True)
        self.assertIs(answer(5, ("rest", 3, (-1, 0), 2), (0, (1, 0))), True)
        self.assertEqual(comparisons(2, 1, ("or", ("least", (1,), 0), ("equal", (1,), 0))), (((1,), 0),))
        self.assertEqual(comparisons(2, 1, ("has", 0)), ())
        self.assertEqual(question_modulus(2, 1, ("has", 0)), 1)
        self.assertEqual(question_modulus(2, 1, ("and", ("rest", 9, (1,), 0), ("not", ("rest", 15, (1,), 0)))), 45)
        great = ("least", (10 ** 40, -10 ** 40), 3)
        self.assertEqual(checked_question(2, 2, great), great)

    def test_later_changes(self):
        value = ["and", ["least", [1, 0], 1]]
        told = checked_question(2, 2, value)
        value[1][1][0] = 7
        value.append(None)
        self.assertEqual(told, ("and", ("least", (1, 0), 1)))

    def check(self, k, m, value, at):
        told = ("InvalidQuestion", at)
        for work in (checked_question, comparisons, question_modulus):
            self.assertEqual(error_of(work, k, m, value), told, value)
        self.assertEqual(error_of(answer, k, value, (0, (1,) + (0,) * (m - 1))), told, value)

    def test_wrong_parts(self):
        c = (1, 2)
        wrong = list(ODD) + [
            (), ("has",), ("has", 0, 0), ("has", 2), ("has", -1), ("has", True), ("has", 0.0), ("has", None), ("Has", 0),
            (b"has", 0), (0, 0), ("",), (None,), (("has", 0),), ("least", c), ("least", c, 0, 0), ("least", (1,), 0),
            ("least", (1, 2, 3), 0), ("least", c, None), ("least", c, True), ("least", (1, None), 0),
            ("least", (True, 1), 0), ("least", "12", 0), ("least", {}, 0), ("least", c, 1.0), ("equal", c, "0"),
            ("equal", None, 0), ("equal", c), ("rest", 3, c), ("rest", 3, c, 0, 0), ("rest", 2, c, 0), ("rest", 0, c, 0),
            ("rest", 31, c, 0), ("rest", 33, c, 0), ("rest", True, c, 0), ("rest", None, c, 0), ("rest", 3, c, 3),
            ("rest", 3, c, -1), ("rest", 3, c, False), ("rest", 3, (1,), 0), ("rest", 3, (1, "2"), 0), ("not",),
            ("not", ("and",), ("and",)), "has", "and", deep_value(500), ("rest", 3.0, c, 0), ("least", [1, [2]], 0),
        ]
        for value in wrong:
            self.check(2, 2, value, 0)
            self.check(2, 2, ["not", value], 1)
            self.check(2, 2, ("and", ("has", 0), ("or", ("not", ("has", 1)), value, None), None), 5)
        self.check(2, 2, ("and", ("and", ("has", 9)), None), 2)
        self.check(2, 2, ("and", None, ("has", 9)), 1)

    def test_moduli(self):
        for k in SIZES:
            for e in range(-1, 40):
                good = 1 <= e <= 30 and math.gcd(e, k) == 1
                told = error_of(checked_question, k, 1, ("rest", e, (1,), 0))
                self.assertEqual(told, None if good else ("InvalidQuestion", 0))

    def test_300_parts_and_301(self):
        for k in SIZES:
            value = ("and",) + (("has", 0),) * 299
            self.assertEqual(len(checked_question(k, 1, value)), 300)
            self.check(k, 1, value + (("has", 0),), 300)
            self.check(k, 1, value + (None,), 300)
            self.check(k, 1, ("or", value, None), 300)
            self.check(k, 1, ["not", ("and",) + (("has", 0),) * 10 ** 5], 300)
        self.check(2, 1, ("and",) + (("has", 0),) * 298 + (None, None), 299)

    def test_inside_8_and_inside_9(self):
        value = ("has", 0)
        for _ in range(8):
            value = ("not", value)
        self.assertEqual(checked_question(2, 1, value), value)
        self.assertIs(answer(2, value, (0, (1,))), True)
        self.check(2, 1, ("not", value), 9)
        self.check(2, 1, ("and", ("has", 0), value), 10)
        looped = ["not"]
        looped.append(looped)
        self.check(2, 1, looped, 9)
        looped = ["and"]
        looped.extend([["has", 0], looped])
        self.check(2, 1, looped, 17)


if __name__ == "__main__":
    unittest.main()
