"""Sheets of evidence: a question and what answers it."""

from mixlabels.errors import InvalidNaming, InvalidQuestion, MixError, Refused
from mixlabels.exchanges import is_passage, passage
from mixlabels.following import is_multipliers, multipliers
from mixlabels.forcing import forced, is_forced_evidence
from mixlabels.guides import depth_guide, is_guide
from mixlabels.likenesses import Likenesses
from mixlabels.markings import least_marking, marks_apart
from mixlabels.mending import is_mending, mended
from mixlabels.mixtures import is_mixture
from mixlabels.parting import is_parting, parting_story
from mixlabels.tables import Table
from mixlabels.tasting import checked_naming
from mixlabels.telling import is_told_evidence, told_by_mixture
from mixlabels.things import is_sequence, is_tuple

# How many things the question of each kind has.
KINDS = {"parting": 5, "mended": 1, "forced": 3, "told": 2, "guide": 2, "passage": 3, "marks": 3, "multipliers": 3}


def is_kind(value):
    return isinstance(value, str) and value in KINDS


def is_asked(kind, value):
    """Whether any value is a question for a kind."""
    if not is_tuple(value, KINDS[kind]):
        return False
    if kind in ("passage", "marks", "multipliers"):
        told = value[0]
        return isinstance(told, Likenesses) and are_mixtures(told.k, told.ingredients, value[1:])
    table = value[0]
    if not isinstance(table, Table):
        return False
    if kind not in ("parting", "guide"):
        return True
    return is_naming(table, value[1]) and are_mixtures(table.k, len(value[1]), value[3:])


def is_naming(table, value):
    try:
        checked_naming(table, value)
    except InvalidNaming:
        return False
    return True


def are_mixtures(k, ingredients, values):
    return all([is_mixture(k, ingredients, value) for value in values])


def sheet_holds(value):
    if not is_tuple(value, 3) or not is_kind(value[0]) or not is_asked(value[0], value[1]):
        return False
    try:
        return is_answer(value[0], value[1], value[2])
    except MixError:
        return False


def is_answer(kind, question, value):
    """Whether the value answers a question of a kind."""
    if kind == "parting":
        table, naming, asked, _, _ = question
        return is_parting(table, naming, asked, value)
    if kind == "mended":
        return is_mending(question[0], value)
    if kind == "forced":
        table, one, other = question
        return is_forced_evidence(table, one, other, value)
    if kind == "told":
        table, some = question
        return is_told_evidence(table, some, value)
    if kind == "guide":
        table, naming = question
        return is_guide(table, naming, value)
    told, one, other = question
    if kind == "passage":
        return is_passage(told, one, other, value)
    if kind == "marks":
        return marks_apart(told, one, other, value)
    return is_multipliers(told, one, other, value)


def sheet(kind, question):
    if not is_kind(kind):
        raise Refused(0)
    if not is_asked(kind, question):
        raise Refused(1)
    # What is answered is no longer any value, so that copying it comes to an end.
    value = answered(kind, question)
    return kind, copied(question), value


def answered(kind, question):
    """What answers a question of a kind."""
    if kind == "parting":
        table, naming, asked, one, other = question
        return parting_story(table, naming, asked, one, other)
    if kind == "mended":
        return mended(question[0])
    if kind == "forced":
        table, one, other = question
        return forced(table, one, other)
    if kind == "told":
        table, some = question
        return told_by_mixture(table, some)
    if kind == "guide":
        table, naming = question
        return depth_guide(table, naming)
    told, one, other = question
    if kind == "passage":
        return passage(told, one, other)
    if kind == "marks":
        return least_marking(told, one, other)
    return multipliers(told, one, other)


def copied(value):
    """The value with all lists in it copied."""
    if isinstance(value, list):
        return [copied(thing) for thing in value]
    if isinstance(value, tuple):
        return tuple([copied(thing) for thing in value])
    return value


def wrong_sheets(values):
    if not is_sequence(values):
        raise InvalidQuestion(0)
    return tuple([at for at, value in enumerate(values) if not sheet_holds(value)])
