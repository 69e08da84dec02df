"""Stories whose two mixtures are answered unlike."""

from mixlabels.arithmetic import power
from mixlabels.deciding import parting_mixtures
from mixlabels.errors import Refused
from mixlabels.leaves import digit_leaves
from mixlabels.lines import last_number, line, line_rows, shift_modulus
from mixlabels.plans import plan_mixture
from mixlabels.questions import answer, checked_question
from mixlabels.stories import is_story, path, planned, story
from mixlabels.tasting import checked_naming
from mixlabels.turns import Search


def is_parting(table, naming, question, value):
    names = checked_naming(table, naming)
    k, many = table.k, len(names)
    checked = checked_question(k, many, question)
    if not is_story(table, names, value):
        return False
    one, other = [answer(k, checked, plan_mixture(k, many, plan)) for plan in value]
    return one != other


def parting_story(table, naming, question, one, other):
    names = checked_naming(table, naming)
    checked = checked_question(table.k, len(names), question)
    chain = path(table, names, one, other)
    first = answer(table.k, checked, one)
    if answer(table.k, checked, other) == first:
        raise Refused(len(names))
    search = Search(chain, 0, chain.length)
    while search.middle is not None:
        search = search.halved(answer(table.k, checked, chain.mixture_after(search.middle)) == first)
    return story(table, names, one, other, search.low)


def refutation(table, naming, question):
    names = checked_naming(table, naming)
    told = parting_mixtures(table.k, len(names), question, shift_modulus(table, names))
    if told == ("settled",):
        return None
    return parting_story(table, names, question, told[1], told[2])


def more_story(table, naming, i, j):
    names = checked_naming(table, naming)
    labels, start = line(table, names, i, j)
    # The line comes back to the label with the index start: two parts for the same place beside the same cups.
    return tuple([plan_beside(table.k, len(names), (i, j), t, len(labels)) for t in (start, len(labels))])


def plan_beside(k, ingredients, pair, t, last):
    """A plan of a blend of x_t and of cups beside which x_last leaves i no more than a half, others before it more."""
    i, j = pair
    rows = line_rows(k, ingredients, i, j, t)
    numbers = {row: ingredients + at for at, row in enumerate(rows)}
    # Times k ** (last + 1) the share of i in the blend is 1 for x_last, and k or more for the others.
    whole = power(k, last + 1)
    many = whole // 2 - 1
    pairs = [(1, last_number(ingredients, i, rows))]
    pairs.extend(digit_leaves(k, last + 1, i, many))
    pairs.extend(digit_leaves(k, last + 1, j, whole - power(k, last) - many))
    cup = planned(k, ingredients, pairs, numbers)
    return tuple(list(numbers)), cup
