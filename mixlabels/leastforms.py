"""The form of the least table of an oracle."""

from mixlabels.arithmetic import power
from mixlabels.cases import all_cases, all_sets
from mixlabels.things import tuples_below


def answers_by_case(oracle):
    return dict(zip(all_cases(oracle.ingredients, oracle.modulus), oracle.answers))


def includes(some, others):
    return all([i in some for i in others])


def settled_set(oracle, contained):
    answers = answers_by_case(oracle)
    # What is in the set itself is never beside it, so that it does not matter either.
    return tuple([i for i in range(oracle.ingredients) if not matters(answers, contained, i)])


def matters(answers, contained, i):
    """Whether some answer changes if an ingredient beside these comes to be contained."""
    for (some, rests), told in answers.items():
        if includes(some, contained) and i not in some:
            if answers[(tuple(sorted(some + (i,))), rests)] != told:
                return True
    return False


def periods(oracle, contained):
    answers = answers_by_case(oracle)
    cases = [case for case in answers if includes(case[0], contained)]
    found = []
    for free in tuples_below(oracle.modulus, len(contained) - 1):
        row = [0] * oracle.ingredients
        for i, rest in zip(contained, free + (-sum(free) % oracle.modulus,)):
            row[i] = rest
        if is_period(answers, cases, row, oracle.modulus):
            found.append(tuple(row))
    return tuple(found)


def is_period(answers, cases, row, modulus):
    for some, rests in cases:
        moved = tuple([(rest + more) % modulus for rest, more in zip(rests, row)])
        if answers[(some, moved)] != answers[(some, rests)]:
            return False
    return True


def least_form(oracle):
    closed = [some for some in all_sets(oracle.ingredients) if settled_set(oracle, some) == some]
    return tuple([
        (some, power(oracle.modulus, len(some) - 1) // len(periods(oracle, some))) for some in closed
    ])
