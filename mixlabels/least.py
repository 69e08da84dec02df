"""The least table that answers an oracle."""

from mixlabels.cases import blend_cases, case_of
from mixlabels.errors import Refused
from mixlabels.tables import Table, fits
from mixlabels.things import tuples_of
from mixlabels.trails import Walks, pure_case


def classes(oracle):
    return Walks(oracle).classes()


def least_size(oracle):
    return 1 + max(classes(oracle))


def least_answers(oracle):
    found = {}
    for number, told in zip(classes(oracle), oracle.answers):
        found.setdefault(number, told)
    return tuple(list(found.values()))


def least_table(oracle):
    walks = Walks(oracle)
    numbers = walks.classes()
    many = 1 + max(numbers)
    if not fits(oracle.k, many):
        raise Refused(many)
    # Blends of alike cups are alike, so that any case stands for its class.
    cases = [walks.cases[numbers.index(number)] for number in range(many)]
    blends = [blend_cases(oracle.k, oracle.modulus, cups) for cups in tuples_of(cases, oracle.k)]
    table = Table(oracle.k, many, [numbers[walks.numbers[blend]] for blend in blends])
    return table, tuple([numbers[walks.numbers[pure_case(oracle, i)]] for i in range(oracle.ingredients)])


def least_label(oracle, mixture):
    walks = Walks(oracle)
    return walks.classes()[walks.numbers[case_of(oracle.k, mixture, oracle.modulus)]]
