"""The coarsest grouping that keeps what labels answer, and all groupings that mend."""

from mixlabels.errors import InvalidQuestion, Refused
from mixlabels.groupings import clash, is_finer, numbered
from mixlabels.mending import merged
from mixlabels.tables import blend_label
from mixlabels.things import first_no_number, is_below, is_sequence, tuples_below


def coarsest(table, answers):
    check_answers(table, answers)
    return refined(table, answers)[-1]


def check_answers(table, answers):
    if not is_sequence(answers):
        raise InvalidQuestion(table.labels)
    wrong = first_no_number(answers)
    if wrong is not None:
        raise InvalidQuestion(wrong)
    if len(answers) != table.labels:
        raise InvalidQuestion(table.labels)


def refined(table, answers):
    """The grouping by answers, then again and again that of labels whose blends are in like classes, until it stays."""
    found = [numbered(answers)]
    grouping = next_finer(table, found[-1])
    while grouping != found[-1]:
        found.append(grouping)
        grouping = next_finer(table, grouping)
    return found


def next_finer(table, grouping):
    rests = tuples_below(table.labels, table.k - 1)
    rows = []
    for label in range(table.labels):
        row = [grouping[label]]
        for i in range(table.k):
            row.extend([grouping[blend_label(table, rest[:i] + (label,) + rest[i:])] for rest in rests])
        rows.append(tuple(row))
    return numbered(rows)


def parted(table, answers, one, other):
    check_answers(table, answers)
    groupings = refined(table, answers)
    if not is_below(one, table.labels) or not is_below(other, table.labels):
        raise Refused(0)
    if groupings[-1][one] == groupings[-1][other]:
        raise Refused(0)
    return parting_recipe(table, groupings, one, other)


def parting_recipe(table, groupings, one, other):
    """A recipe and a place of one label, such that the other label in its stead changes the answer."""
    recipe, place = one, ()
    here, there = one, other
    level = first_apart(groupings, here, there)
    while level > 0:
        rest, i = parting_rest(table, groupings[level - 1], here, there)
        recipe, place = rest[:i] + (recipe,) + rest[i:], (i,) + place
        here, there = [blend_label(table, rest[:i] + (label,) + rest[i:]) for label in (here, there)]
        level = first_apart(groupings, here, there)
    return recipe, place


def first_apart(groupings, one, other):
    return [grouping[one] != grouping[other] for grouping in groupings].index(True)


def parting_rest(table, grouping, one, other):
    """Other cups, and a place among them, where these two labels make blends of unlike classes."""
    for rest in tuples_below(table.labels, table.k - 1):
        for i in range(table.k):
            blends = [blend_label(table, rest[:i] + (label,) + rest[i:]) for label in (one, other)]
            if grouping[blends[0]] != grouping[blends[1]]:
                return rest, i
    return None


def mendings(table):
    finest = merged(table)[0]
    found = [()]
    for _ in range(table.labels):
        found = [row + (number,) for row in found for number in range(max(row, default=-1) + 2)]
    return tuple([row for row in found if is_finer(finest, row) and clash(table, row) is None])
