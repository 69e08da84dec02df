"""Trails: cups that are blended on with pure cups, until unlike answers come out."""

from mixlabels.cases import all_cases, blend_cases
from mixlabels.grids import lots, not_descending
from mixlabels.things import are_below, is_tuple


def is_trail(oracle, value):
    if not isinstance(value, tuple):
        return False
    return all([is_stage(oracle, stage) for stage in value])


def is_stage(oracle, value):
    return is_tuple(value, oracle.k - 1) and are_below(value, oracle.ingredients) and not_descending(value)


def case_after(oracle, case, trail):
    found = case
    for stage in trail:
        found = blend_cases(oracle.k, oracle.modulus, [found] + [pure_case(oracle, i) for i in stage])
    return found


def pure_case(oracle, i):
    """The case of a pure ingredient."""
    return (i,), tuple([1 % oracle.modulus if j == i else 0 for j in range(oracle.ingredients)])


def parting_trail(oracle, one, other):
    walks = Walks(oracle)
    return walks.trail(walks.numbers[one], walks.numbers[other])


class Walks:
    """Where all cases of an oracle lead along all trails; cases are told by their numbers."""

    def __init__(self, oracle):
        self.cases = all_cases(oracle.ingredients, oracle.modulus)
        self.numbers = {case: at for at, case in enumerate(self.cases)}
        self.stages = lots(oracle.ingredients, oracle.k - 1)
        self.after = [
            [self.numbers[case_after(oracle, case, (stage,))] for stage in self.stages]
            for case in self.cases
        ]
        # For 0, 1, 2 .. blends the classes of those cases that no trail of at most so many blends parts.
        self.levels = levels_of(oracle.answers, self.after)

    def classes(self):
        return self.levels[-1]

    def end(self, start, trail):
        here = start
        for stage in trail:
            here = self.after[here][self.stages.index(stage)]
        return here

    def trail(self, one, other):
        """The first of the shortest trails that part two cases, or None."""
        if self.classes()[one] == self.classes()[other]:
            return None
        many = 0
        while self.levels[many][one] == self.levels[many][other]:
            many += 1
        found = []
        here, there = one, other
        for level in reversed(self.levels[:many]):
            at = 0
            while level[self.after[here][at]] == level[self.after[there][at]]:
                at += 1
            found.append(self.stages[at])
            here, there = self.after[here][at], self.after[there][at]
        return tuple(found)


def levels_of(answers, after):
    levels = [numbered(answers)]
    while True:
        last = levels[-1]
        finer = numbered([(last[at],) + tuple([last[end] for end in ends]) for at, ends in enumerate(after)])
        if max(finer) == max(last):
            return levels
        levels.append(finer)


def numbered(things):
    """Numbers for things, alike for like ones, in the order in which they come first."""
    numbers = {}
    return tuple([numbers.setdefault(thing, len(numbers)) for thing in things])
