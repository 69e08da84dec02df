"""Oracles: they answer every mixture by its case."""

from math import lcm

from mixlabels.cases import all_cases, case_count, case_index, case_of, is_case
from mixlabels.errors import InvalidBowl, InvalidQuestion, Refused
from mixlabels.mixtures import is_modulus
from mixlabels.recipes import is_bowl
from mixlabels.things import first_no_number, is_integer, is_sequence

MOST_CASES = 400
GREATEST_MODULUS = 30


class Oracle:
    """An answer for each case, as all_cases tells them."""

    def __init__(self, k, ingredients, modulus, answers):
        if not is_bowl(k):
            raise InvalidBowl(0)
        if not is_integer(ingredients) or not 1 <= ingredients <= 4:
            raise InvalidQuestion(1)
        if not is_small_modulus(k, modulus) or case_count(ingredients, modulus) > MOST_CASES:
            raise InvalidQuestion(2)
        check_answers(answers, case_count(ingredients, modulus))
        self.k = k
        self.ingredients = ingredients
        self.modulus = modulus
        self.answers = tuple(answers)

    def __eq__(self, other):
        if not isinstance(other, Oracle) or self.k != other.k or self.ingredients != other.ingredients:
            return False
        return self.modulus == other.modulus and self.answers == other.answers

    def case_answer(self, case):
        if not is_case(self.ingredients, self.modulus, case):
            raise InvalidQuestion(0)
        return self.answers[case_index(self.ingredients, self.modulus, case)]

    def mixture_answer(self, mixture):
        return self.case_answer(case_of(self.k, mixture, self.modulus))


def is_small_modulus(k, value):
    """Whether any value is a modulus up to 30."""
    return is_modulus(k, value) and value <= GREATEST_MODULUS


def check_answers(answers, many):
    if not is_sequence(answers):
        raise InvalidQuestion(3 + many)
    wrong = first_no_number(answers)
    if wrong is not None:
        raise InvalidQuestion(3 + wrong)
    if len(answers) != many:
        raise InvalidQuestion(3 + many)


def paired(one, other):
    modulus = lcm(one.modulus, other.modulus)
    if modulus > GREATEST_MODULUS or case_count(one.ingredients, modulus) > MOST_CASES:
        raise Refused(0)
    scale = 1 + max(other.answers)
    answers = []
    for case in all_cases(one.ingredients, modulus):
        answer = answer_within(one, case)
        answers.append(answer * scale + answer_within(other, case))
    return Oracle(one.k, one.ingredients, modulus, answers)


def answer_within(oracle, case):
    """The answer for a case modulo a multiple of the oracle's modulus."""
    some, rests = case
    return oracle.case_answer((some, tuple([rest % oracle.modulus for rest in rests])))
