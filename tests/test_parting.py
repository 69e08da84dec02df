"""Point 29: stories whose mixtures are answered unlike."""

import itertools
import unittest

from mixlabels.cases import all_cases, case_of
from mixlabels.deciding import oracle_of, parting_mixtures
from mixlabels.faults import fault
from mixlabels.fillings import count_of, mixture_at
from mixlabels.lines import shift, shift_modulus
from mixlabels.mixtures import contained
from mixlabels.parting import is_parting, more_story, parting_story, refutation
from mixlabels.plans import plan_depth, plan_label, plan_mixture
from mixlabels.questions import answer
from mixlabels.stories import is_story, path
from mixlabels.tables import Table
from tests.faithful import drawn_faithful
from tests.helpers import (
    NO_SEQUENCES, ODD, SIZES, deep_value, error_of, first_table, generator, least_table, moduli_of,
    random_table,
)
from tests.test_deciding import drawn_question
from tests.test_patterns import drawn_comparisons
from tests.test_plans import few_labels
from tests.test_questions import listed


def drawn_table(rnd, k):
    if rnd.random() < 0.3:
        table = drawn_faithful(rnd, k)
        if table.labels <= few_labels(k):
            return table
    return random_table(rnd, k, rnd.randrange(1, few_labels(k) + 1))


def restless_table(rnd, k, labels, many):
    """A table and a naming whose lines go round with a great common period."""
    best = None
    for _ in range(800):
        turns = [rnd.sample(range(labels), labels) for _ in range(labels)]
        rows = []
        for cups in itertools.product(range(labels), repeat=k):
            rows.append(turns[cups[1]][cups[0]] if len(set(cups[1:])) == 1 else rnd.randrange(labels))
        told = Table(k, labels, rows), rnd.sample(range(labels), many)
        if best is None or shift(*told)[1] > shift(*best)[1]:
            best = told
    return best


class PartingTest(unittest.TestCase):
    def ends(self, rnd, table, naming, n):
        """Two mixtures of one case modulo the shift, or None."""
        k, m, modulus = table.k, len(naming), shift_modulus(table, naming)
        some = tuple(sorted(rnd.sample(range(m), rnd.randrange(2, m + 1))))
        rests = [0] * m
        for i in some[:-1]:
            rests[i] = rnd.randrange(modulus)
        rests[some[-1]] = (1 - sum(rests)) % modulus
        many = count_of(k, modulus, (some, tuple(rests)), n)
        if many < 2:
            return None
        return [mixture_at(k, modulus, (some, tuple(rests)), n, rnd.randrange(many)) for _ in range(2)]

    def test_parting_stories(self):
        rnd = generator(1)
        found = 0
        for k in SIZES:
            for _ in range(90):
                table = drawn_table(rnd, k)
                naming = [rnd.randrange(table.labels) for _ in range(rnd.randrange(2, 5))]
                ends = self.ends(rnd, table, naming, rnd.choice([2, 3, 5, 10, 40]))
                if ends is not None:
                    for question in (drawn_question(rnd, k, len(naming)), self.question_between(rnd, k, *ends)):
                        found += self.check(table, naming, question, *ends)
        self.assertGreater(found, 100)

    def question_between(self, rnd, k, one, other):
        """A question that most often has unlike answers for two mixtures."""
        c = tuple(rnd.randint(-1000, 1000) for _ in one[1])
        sums = sorted(sum(weight * count for weight, count in zip(c, counts)) // k ** n for n, counts in (one, other))
        question = ("least", c, sums[0] + 1)
        return rnd.choice([question, ("not", question), ("or", question, ("equal", c, sums[1])), ("and", question)])

    def check(self, table, naming, question, one, other):
        k, m = table.k, len(naming)
        answers = [answer(k, question, mixture) for mixture in (one, other)]
        if answers[0] == answers[1]:
            self.assertEqual(error_of(parting_story, table, naming, question, one, other), ("Refused", m))
            return False
        told = parting_story(table=table, naming=naming, question=listed(question), one=one, other=other)
        self.assertTrue(is_parting(table=table, naming=naming, question=listed(question), value=told))
        self.assertTrue(is_story(table, naming, told))
        mixtures = [plan_mixture(k, m, plan) for plan in told]
        self.assertNotEqual(answer(k, question, mixtures[0]), answer(k, question, mixtures[1]))
        chain = path(table, naming, one, other)
        self.assertTrue(self.are_neighbours(chain, mixtures))
        self.assertLessEqual(max(plan_depth(k, m, plan) for plan in told), chain.depth)
        return True

    def are_neighbours(self, chain, mixtures):
        """Whether the mixtures are of the path, one move apart."""
        low, high = 0, chain.length
        while high - low > 3:
            # All mixtures of a path lie in a row: their distance from its start grows.
            middle = (low + high) // 2
            if self.gone(chain, chain.mixture_after(middle)) <= self.gone(chain, mixtures[0]):
                low = middle
            else:
                high = middle
        near = [chain.mixture_after(index) for index in range(max(0, low - 3), min(chain.length, high + 3) + 1)]
        return tuple(mixtures) in set(zip(near, near[1:]))

    def gone(self, chain, mixture):
        n, counts = mixture
        start, many = chain.start
        scale = chain.k ** (chain.depth - n)
        first = chain.k ** (chain.depth - start)
        return sum(abs(count * scale - other * first) for count, other in zip(counts, many))

    def test_refused_behind_the_other_errors(self):
        for k in SIZES:
            table = least_table(k, 2)
            one, other, apart = (1, (1, k - 1)), (2, (1, k * k - 1)), (0, (1, 0))
            for m, more in ((2, ()), (3, (0,)), (4, (0, 0))):
                mixtures = [(n, counts + more) for n, counts in (one, other, apart)]
                naming = [0, 1, 0, 1][:m]
                told = error_of(parting_story, table, naming, ("has", 0), mixtures[0], mixtures[1])
                self.assertEqual(told, ("Refused", m))
                told = error_of(parting_story, table, naming, ("has", 1), mixtures[0], mixtures[2])
                self.assertEqual(told, ("InvalidPair", 3))
                told = error_of(parting_story, table, naming, ("has", m), mixtures[0], mixtures[2])
                self.assertEqual(told, ("InvalidQuestion", 0))
                told = error_of(parting_story, table, naming + [2], ("has", m + 2), mixtures[0], mixtures[2])
                self.assertEqual(told, ("InvalidNaming", m))


class IsPartingTest(unittest.TestCase):
    def test_value(self):
        table = Table(2, 2, [0, 0, 0, 0])
        half, more = (((0, 1),), 2), (((0, 1), (2, 0)), 3)
        question = ("least", (4, 0), 3)
        self.assertIs(is_parting(table, [0, 1], question, (half, more)), True)
        self.assertIs(is_parting(table, [0, 1], question, (more, half)), True)
        self.assertIs(is_parting(table, [0, 1], ("has", 0), (half, more)), False)
        self.assertIs(is_parting(least_table(2, 3), [2, 1], question, (half, ((), 0))), False)
        self.assertIs(is_parting(first_table(2, 2), [0, 1], question, (half, (((1, 0), (2, 0)), 3))), False)
        wrong = [
            [half, more], (half, list(more)), ([[(0, 1)], 2], more), (half,), (half, more, more), (half, None), (half, half),
            (half, (((0, True),), 2)), deep_value(200), (more, (((0, 1), (2, 0)), 4)),
        ]
        for value in wrong + list(ODD):
            self.assertIs(is_parting(table, [0, 1], question, value), False, value)

    def test_errors(self):
        table = least_table(2, 3)
        for value in NO_SEQUENCES + ([], [0] * 13):
            for question in (("has", 0), None):
                self.assertEqual(error_of(is_parting, table, value, question, None), ("InvalidNaming", 12), value)
                told = error_of(parting_story, table, value, question, (0, (1, 0)), (0, (0, 1)))
                self.assertEqual(told, ("InvalidNaming", 12), value)
                self.assertEqual(error_of(refutation, table, value, question), ("InvalidNaming", 12), value)
        for value in ODD + (3,):
            for question in (("has", 0), None):
                self.assertEqual(error_of(is_parting, table, [0, value], question, None), ("InvalidNaming", 1), value)
                self.assertEqual(error_of(refutation, table, [0, value], question), ("InvalidNaming", 1), value)
        for value in ODD + (("has", 2), ("least", (1,), 0), ("rest", 2, (1, 1), 0), deep_value(50)):
            self.assertEqual(error_of(is_parting, table, [0, 1], value, None), ("InvalidQuestion", 0), value)
            self.assertEqual(error_of(refutation, table, [0, 1], value), ("InvalidQuestion", 0), value)
            self.assertEqual(error_of(refutation, table, [0, 1], ["not", value]), ("InvalidQuestion", 1), value)
            told = error_of(parting_story, table, [0, 1], ("and", ("has", 0), value), (0, (1, 0)), (0, (0, 1)))
            self.assertEqual(told, ("InvalidQuestion", 2), value)


class RefutationTest(unittest.TestCase):
    def test_refutations(self):
        rnd = generator(2)
        for k in SIZES:
            kinds = set()
            for _ in range(70):
                table = drawn_table(rnd, k)
                m = rnd.randrange(1, 5)
                e = rnd.choice(moduli_of(k, 30 if m < 3 else 6))
                rest = ("rest", e, tuple(rnd.randrange(-3, 4) for _ in range(m)), rnd.randrange(e))
                question = rnd.choice([rest, drawn_question(rnd, k, m), drawn_question(rnd, k, m)])
                self.check(table, [rnd.randrange(table.labels) for _ in range(m)], question, kinds)
            self.assertEqual(kinds, {(True, "oracle"), (False, "oracle"), (False, "none")})

    def check(self, table, naming, question, kinds):
        k, m = table.k, len(naming)
        modulus = shift_modulus(table, naming)
        told = refutation(table=table, naming=naming, question=listed(question))
        oracle = oracle_of(k, m, question)
        kinds.add((told is None, oracle[0]))
        settles = oracle[0] == "oracle" and modulus % oracle[1].modulus == 0
        self.assertEqual(told is None, settles)
        self.assertEqual(parting_mixtures(k, m, question, modulus) == ("settled",), settles)
        if told is not None:
            self.assertTrue(is_parting(table, naming, question, told))

    def test_longest_periods(self):
        rnd = generator(3)
        for k, labels, least in ((2, 6, 60), (3, 6, 60), (4, 5, 60), (5, 3, 6)):
            table, naming = restless_table(rnd, k, labels, min(labels, 4))
            self.assertGreaterEqual(shift(table, naming)[1], least)
            self.assertIsNotNone(fault(table))
            m = len(naming)
            for _ in range(25):
                rows = drawn_comparisons(rnd, m, 3 if m == 4 else 6, 1000)
                parts = [(rnd.choice(["least", "equal"]), c, b) for c, b in rows]
                question = ("and",) + tuple(rnd.choice([part, ("not", part)]) for part in parts)
                told = refutation(table, naming, question)
                if told is None:
                    self.assertEqual(oracle_of(k, m, question)[0], "oracle")
                else:
                    self.assertTrue(is_parting(table, naming, question, told))

    def test_is_there_more(self):
        for k in SIZES:
            for table in (least_table(k, 3), first_table(k, 3), Table(k, 1, [0])):
                told = refutation(table, [0] * 2, ("least", (2, 0), 1))
                self.assertTrue(is_parting(table, [0] * 2, ("least", (2, 0), 1), told))
            self.assertIsNone(refutation(least_table(k, 3), [0, 1, 2], ("has", 1)))
            self.assertIsNone(refutation(least_table(k, 3), [0], ("least", (1,), 1)))


class MoreStoryTest(unittest.TestCase):
    def test_stories(self):
        rnd = generator(4)
        for k in SIZES:
            for _ in range(60):
                table = drawn_table(rnd, k)
                naming = [rnd.randrange(table.labels) for _ in range(rnd.randrange(2, 5))]
                i, j = rnd.sample(range(len(naming)), 2)
                self.check(table, naming, i, j)
            for labels in range(1, few_labels(k) + 1):
                # A line that visits all labels before it comes back.
                results = [(cups[0] + 1) % labels for cups in itertools.product(range(labels), repeat=k)]
                self.check(Table(k, labels, results), [0, 0], 1, 0)
                results = [min(cups[0] + 1, labels - 1) for cups in itertools.product(range(labels), repeat=k)]
                self.check(Table(k, labels, results), [0, 0], 0, 1)

    def check(self, table, naming, i, j):
        k, m = table.k, len(naming)
        told = more_story(table=table, naming=naming, i=i, j=j)
        self.assertTrue(is_story(table, naming, told))
        self.assertEqual(len({plan_label(table, naming, plan) for plan in told}), 1)
        one, other = [plan_mixture(k, m, plan) for plan in told]
        self.assertEqual((contained(one), contained(other)), (tuple(sorted((i, j))),) * 2)
        self.assertGreater(one[1][i], one[1][j])
        self.assertLessEqual(other[1][i], other[1][j])
        self.assertLessEqual(max(plan_depth(k, m, plan) for plan in told), table.labels + 2)

    def test_errors(self):
        table = least_table(3, 3)
        for value in ODD + (2, 0.0):
            for other in (0, None, value):
                self.assertEqual(error_of(more_story, table, [0, 1], value, other), ("InvalidPair", 0), value)
            self.assertEqual(error_of(more_story, table, [0, 1], 1, value), ("InvalidPair", 1), value)
        for value in ODD + (3, 9):
            for i in (0, None):
                self.assertEqual(error_of(more_story, table, [0, 1, value, 9], i, i), ("InvalidNaming", 2), value)
        for value in NO_SEQUENCES + ([], [0] * 13):
            self.assertEqual(error_of(more_story, table, value, 0, 1), ("InvalidNaming", 12), value)
        self.assertEqual(error_of(more_story, table, [0, 1], 1, 1), ("InvalidPair", 1))
        self.assertEqual(error_of(more_story, table, [0], 0, 0), ("InvalidPair", 1))
        self.assertEqual(error_of(more_story, table, [0], 1, 1), ("InvalidPair", 0))

    def test_later_changes(self):
        table, naming = first_table(2, 2), [0, 1]
        question = ["least", [2, 0], 1]
        told = refutation(table, naming, question), more_story(table, naming, 0, 1)
        naming[0] = 1
        question[1][0] = 0
        self.assertEqual(told, (refutation(table, (0, 1), ("least", (2, 0), 1)), more_story(table, (0, 1), 0, 1)))
        self.assertEqual(case_of(2, plan_mixture(2, 2, told[0][0]), 1), all_cases(2, 1)[1])


if __name__ == "__main__":
    unittest.main()
