"""Which moduli settle an oracle."""

from math import gcd, lcm

from mixlabels.arithmetic import joint_remainder
from mixlabels.cases import all_cases, all_sets, case_count
from mixlabels.errors import InvalidQuestion, Refused
from mixlabels.fillings import first_mixture
from mixlabels.oracles import MOST_CASES, Oracle, is_small_modulus


def settling_modulus(oracle):
    found = 1
    for _, modulus in set_moduli(oracle):
        found = lcm(found, modulus)
    return found


def set_moduli(oracle):
    found = []
    for some in all_sets(oracle.ingredients):
        modulus = 1
        while oracle.modulus % modulus != 0 or unlike_cases(oracle, some, modulus) is not None:
            modulus += 1
        found.append((some, modulus))
    return tuple(found)


def unlike_cases(oracle, some, modulus):
    """Two cases with just these ingredients, alike modulo the divisor, but answered unlike, or None."""
    first = {}
    for case in all_cases(oracle.ingredients, oracle.modulus):
        if case[0] == some:
            other = first.setdefault(remainders_of(case, modulus), case)
            if oracle.case_answer(other) != oracle.case_answer(case):
                return other, case
    return None


def remainders_of(case, modulus):
    return tuple([rest % modulus for rest in case[1]])


def with_modulus(oracle, modulus):
    if not is_small_modulus(oracle.k, modulus):
        raise InvalidQuestion(1)
    # Mixtures of two cases can be alike modulo the modulus exactly if the cases are so modulo this.
    divisor = gcd(oracle.modulus, modulus)
    for some in all_sets(oracle.ingredients):
        unlike = unlike_cases(oracle, some, divisor)
        if unlike is not None:
            one, other = unlike
            lifted = lifted_case(one, divisor, modulus)
            return "pair", common_mixture(oracle, one, lifted, modulus), common_mixture(oracle, other, lifted, modulus)
    if case_count(oracle.ingredients, modulus) > MOST_CASES:
        raise Refused(1)
    answers = []
    for case in all_cases(oracle.ingredients, modulus):
        answers.append(oracle.mixture_answer(first_mixture(oracle.k, modulus, case)))
    return "settled", Oracle(oracle.k, oracle.ingredients, modulus, answers)


def lifted_case(case, divisor, modulus):
    """Some case modulo a multiple of the divisor that is like this one modulo the divisor."""
    some = case[0]
    rests = list(remainders_of(case, divisor))
    rests[some[-1]] = (1 - sum([rests[i] for i in some[:-1]])) % modulus
    return some, tuple(rests)


def common_mixture(oracle, case, other, modulus):
    """Some mixture of a case of the oracle that is also of the other case, modulo another modulus."""
    both = lcm(oracle.modulus, modulus)
    rests = []
    for one_rest, other_rest in zip(case[1], other[1]):
        rests.append(joint_remainder(one_rest, oracle.modulus, other_rest, modulus))
    return first_mixture(oracle.k, both, (case[0], tuple(rests)))


def reduced(oracle):
    return with_modulus(oracle, settling_modulus(oracle))[1]


def agree(one, other):
    divisor = gcd(one.modulus, other.modulus)
    alike = {}
    for case in all_cases(one.ingredients, one.modulus):
        alike.setdefault((case[0], remainders_of(case, divisor)), []).append(case)
    for case in all_cases(other.ingredients, other.modulus):
        told = other.case_answer(case)
        for mate in alike[(case[0], remainders_of(case, divisor))]:
            if one.case_answer(mate) != told:
                return "differ", common_mixture(one, mate, case, other.modulus)
    return ("agree",)
