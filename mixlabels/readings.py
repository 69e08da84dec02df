"""What the labels of any table tell about an oracle."""

from mixlabels.cases import blend_cases
from mixlabels.errors import InvalidNaming, Refused
from mixlabels.plans import plan_label, plan_mixture
from mixlabels.stories import is_plan
from mixlabels.tables import blend_label
from mixlabels.tasting import MOST_NAMES, checked_naming
from mixlabels.things import is_tuple, tuples_of
from mixlabels.trails import Walks, pure_case


def reading(oracle, table, naming):
    return Reader(oracle, table, checked_names(oracle, table, naming)).read()


def checked_names(oracle, table, naming):
    if table.k != oracle.k:
        raise Refused(0)
    names = checked_naming(table, naming)
    if len(names) != oracle.ingredients:
        raise InvalidNaming(MOST_NAMES)
    return names


class Reader:
    """Makes recipes for all labels, until some label has recipes of two classes."""

    def __init__(self, oracle, table, names):
        self.oracle = oracle
        self.table = table
        self.names = names
        self.walks = Walks(oracle)
        # For each label that was met: a case, and the number in a plan with these rows of a recipe of the case.
        self.met = {}
        self.rows = []

    def read(self):
        for i, label in enumerate(self.names):
            mistake = self.meet(label, pure_case(self.oracle, i), i, self.rows)
            if mistake is not None:
                return mistake
        before = 0
        while before < len(self.met):
            before = len(self.met)
            known = tuples_of(sorted(self.met), self.table.k)
            for cups in known:
                mistake = self.meet_blend(cups)
                if mistake is not None:
                    return mistake
        return "reading", tuple([self.class_of(label) for label in range(self.table.labels)])

    def class_of(self, label):
        if label not in self.met:
            return None
        return self.walks.classes()[self.walks.numbers[self.met[label][0]]]

    def meet_blend(self, cups):
        case = blend_cases(self.oracle.k, self.oracle.modulus, [self.met[cup][0] for cup in cups])
        rows = self.rows + [tuple([self.met[cup][1] for cup in cups])]
        return self.meet(blend_label(self.table, cups), case, len(self.names) + len(self.rows), rows)

    def meet(self, label, case, number, rows):
        """Keeps a recipe for a new label; the mistake if the label has recipes of another class."""
        if label not in self.met:
            self.met[label] = (case, number)
            self.rows = rows
            return None
        other, other_number = self.met[label]
        trail = self.walks.trail(self.walks.numbers[other], self.walks.numbers[case])
        if trail is None:
            return None
        many = len(self.names)
        return "mistake", plan_along(many, rows, other_number, trail), plan_along(many, rows, number, trail)


def plan_along(ingredients, rows, number, trail):
    """The plan of what the number stands for, blended on along a trail."""
    found = list(rows)
    here = number
    for stage in trail:
        found.append((here,) + stage)
        here = ingredients + len(found) - 1
    return tuple(found), here


def is_mistake(oracle, table, naming, value):
    names = checked_names(oracle, table, naming)
    k, many = oracle.k, oracle.ingredients
    if not is_tuple(value, 2) or not all([is_plan(k, many, plan) for plan in value]):
        return False
    one, other = [oracle.mixture_answer(plan_mixture(k, many, plan)) for plan in value]
    return one != other and plan_label(table, names, value[0]) == plan_label(table, names, value[1])
