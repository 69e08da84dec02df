"""What can be decided about questions, and by which cases they are answered."""

from math import gcd, lcm

from mixlabels.cases import all_cases, all_sets, case_count
from mixlabels.errors import Refused
from mixlabels.grounds import Ground
from mixlabels.moduli import reduced, remainders_of
from mixlabels.oracles import Oracle
from mixlabels.questions import checked_question

MOST_CASES_PLAIN = 30


def failing(k, ingredients, question):
    checked = checked_question(k, ingredients, question)
    ground = Ground(k, ingredients, [checked])
    for case in ground.cases:
        wrong = ground.first_cells(checked, case, ground.modulus)[0]
        if wrong is not None:
            return "fails", ground.mixture(wrong, case, ground.modulus)
    return ("always",)


def same_answers(k, ingredients, one, other):
    checked = checked_question(k, ingredients, one)
    checked_other = checked_question(k, ingredients, other)
    ground = Ground(k, ingredients, [checked, checked_other])
    for case in ground.cases:
        unlike = ground.answered(checked, case) ^ ground.answered(checked_other, case)
        at = ground.first_met(unlike, case, ground.modulus)
        if at is not None:
            return "differ", ground.mixture(at, case, ground.modulus)
    return ("alike",)


def case_answers(k, ingredients, question, modulus):
    checked = checked_question(k, ingredients, question)
    ground = Ground(k, ingredients, [checked])
    whole = lcm(modulus, ground.modulus)
    numbers = {}
    for case in all_cases(ingredients, whole):
        around = (case[0], remainders_of(case, modulus))
        number = ground.number(checked, case, whole)
        if numbers.setdefault(around, number) != number:
            numbers[around] = 2
    return tuple([numbers[case] for case in all_cases(ingredients, modulus)])


def parting_mixtures(k, ingredients, question, modulus):
    checked = checked_question(k, ingredients, question)
    ground = Ground(k, ingredients, [checked])
    # What is not free has one answer with what is free in its case, or no modulus settles the question.
    for case in ground.cases:
        wrong, right = ground.first_cells(checked, case, ground.modulus)
        if wrong is not None and right is not None:
            if ground.is_free(right, case):
                other, one = ground.pair(wrong, case, right, case, modulus)
            else:
                one, other = ground.pair(right, case, wrong, case, modulus)
            return "pair", one, other
    return parting_by_cases(ground, checked, modulus)


def parting_by_cases(ground, question, modulus):
    """The same for a question that its own modulus settles."""
    divisor = gcd(modulus, ground.modulus)
    first = {}
    for case in ground.cases:
        wrong, right = ground.first_cells(question, case, ground.modulus)
        around = (case[0], remainders_of(case, divisor))
        mate, mate_wrong, mate_right = first.setdefault(around, (case, wrong, right))
        if mate_right is not None and wrong is not None:
            one, other = ground.pair(mate_right, mate, wrong, case, modulus)
            return "pair", one, other
        if mate_wrong is not None and right is not None:
            other, one = ground.pair(mate_wrong, mate, right, case, modulus)
            return "pair", one, other
    return ("settled",)


def oracle_of(k, ingredients, question):
    checked = checked_question(k, ingredients, question)
    ground = Ground(k, ingredients, [checked])
    numbers = [ground.number(checked, case, ground.modulus) for case in ground.cases]
    if 2 in numbers:
        return ("none",)
    return "oracle", reduced(Oracle(k, ingredients, ground.modulus, numbers))


def plain_question(k, ingredients, question):
    told = oracle_of(k, ingredients, question)
    if told == ("none",):
        return told
    oracle = told[1]
    if case_count(ingredients, oracle.modulus) > MOST_CASES_PLAIN:
        raise Refused(2)
    cases = all_cases(ingredients, oracle.modulus)
    return "question", ("or",) + tuple([
        plain_case(ingredients, oracle.modulus, case) for case in cases if oracle.case_answer(case) == 1
    ])


def plain_case(ingredients, modulus, case):
    """A question that asks for a case."""
    some, rests = case
    told = [("has", i) if i in some else ("not", ("has", i)) for i in range(ingredients)]
    if modulus > 1:
        # The others tell the remainder of the last one.
        for i in some[:-1]:
            weights = tuple([1 if j == i else 0 for j in range(ingredients)])
            told.append(("rest", modulus, weights, rests[i]))
    return ("and",) + tuple(told)


def settled_sets(k, ingredients, question):
    checked = checked_question(k, ingredients, question)
    ground = Ground(k, ingredients, [checked])
    unsettled = {}
    for case in ground.cases:
        if ground.number(checked, case, ground.modulus) == 2:
            unsettled[case[0]] = True
    return tuple([some for some in all_sets(ingredients) if some not in unsettled])
