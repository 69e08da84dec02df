"""Grounds: which answers a question has in which cases."""

from math import lcm

from mixlabels.arithmetic import joint_remainder
from mixlabels.cases import all_cases, all_sets
from mixlabels.cells import Cells, is_in
from mixlabels.mixtures import remainders
from mixlabels.questions import comparisons, question_modulus, weighed


class Ground:
    """The cells of all mixtures, for the comparisons of questions that are known to be some."""

    def __init__(self, k, ingredients, questions):
        self.k = k
        self.ingredients = ingredients
        self.modulus = 1
        pairs = []
        for question in questions:
            self.modulus = lcm(self.modulus, question_modulus(k, ingredients, question))
            pairs.extend(comparisons(k, ingredients, question))
        self.pairs = sorted(set(pairs))
        self.cells = {some: Cells(k, self.pairs, some) for some in all_sets(ingredients)}
        self.cases = all_cases(ingredients, self.modulus)

    def answered(self, question, case):
        """The cells with the answer True in a case, modulo a multiple of the modulus."""
        word = question[0]
        cells = self.cells[case[0]]
        if word == "has":
            return cells.every if question[1] in case[0] else 0
        if word == "rest":
            return cells.every if weighed(question[2], case[1]) % question[1] == question[3] else 0
        if word == "not":
            return cells.every ^ self.answered(question[1], case)
        if word == "and":
            found = cells.every
            for inner in question[1:]:
                found = found & self.answered(inner, case)
            return found
        if word == "or":
            found = 0
            for inner in question[1:]:
                found = found | self.answered(inner, case)
            return found
        masks = cells.zero if word == "equal" else cells.least
        return masks[self.pairs.index(question[1:])]

    def first_met(self, mask, case, modulus):
        """The first of these cells with a mixture of a case, modulo the modulus, free if it can be, or None."""
        return self.cells[case[0]].first_met(mask, modulus, case[1])

    def mixture(self, at, case, modulus):
        return self.cells[case[0]].mixture(at, modulus, case[1])

    def first_cells(self, question, case, modulus):
        """A cell with the answer False and one with True, None for an answer that no mixture of the case has."""
        right = self.answered(question, case)
        wrong = self.cells[case[0]].every ^ right
        return self.first_met(wrong, case, modulus), self.first_met(right, case, modulus)

    def number(self, question, case, modulus):
        """0 or 1 for the answer that all mixtures of a case have, 2 if they have both."""
        wrong, right = self.first_cells(question, case, modulus)
        if wrong is None:
            return 1
        return 0 if right is None else 2

    def pair(self, at, case, free, other, modulus):
        """A mixture of a cell and a case, one of a free cell and another case; modulo the modulus they are alike."""
        one = self.mixture(at, case, self.modulus)
        told = remainders(self.k, one, modulus)
        rests = [joint_remainder(a, self.modulus, b, modulus) for a, b in zip(other[1], told)]
        return one, self.mixture(free, (other[0], tuple(rests)), lcm(self.modulus, modulus))

    def is_free(self, at, case):
        return is_in(self.cells[case[0]].free, at)
