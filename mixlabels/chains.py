"""Chains: mixtures of one case, one small move after another."""

from mixlabels.cases import case_of
from mixlabels.errors import InvalidPair, Refused
from mixlabels.mixtures import counts_at, lowest
from mixlabels.things import is_below


class Chain:
    """Leads from one mixture to another of the same case by moves of modulus / k ** depth."""

    def __init__(self, k, modulus, depth, start, goal):
        # With another number of ingredients the case is another one, too.
        if case_of(k, start, modulus) != case_of(k, goal, modulus):
            raise InvalidPair(3)
        self.k = k
        self.modulus = modulus
        self.depth = depth
        self.start = start
        self.goal = goal
        have = counts_at(k, start, depth)
        want = counts_at(k, goal, depth)
        # Alike remainders: each difference is made up of whole units.
        self.jumps = jumps_of([(have[i] - want[i]) // modulus for i in range(len(have))])
        self.length = sum([many for _, _, many in self.jumps])

    def mixture_after(self, index):
        if not is_below(index, self.length + 1):
            raise Refused(0)
        counts = list(counts_at(self.k, self.start, self.depth))
        left = index
        for a, b, many in self.jumps:
            moved = min(left, many)
            counts[a] -= moved * self.modulus
            counts[b] += moved * self.modulus
            left -= moved
        return lowest(self.k, self.depth, counts)

    def jump_at(self, index):
        if not is_below(index, self.length):
            raise Refused(0)
        left = index
        at = 0
        while left >= self.jumps[at][2]:
            left -= self.jumps[at][2]
            at += 1
        return self.jumps[at][:2]


def jumps_of(units):
    """The jumps that take away the units of which there are too many, and add those that lack."""
    over = list(units)
    jumps = []
    a, b = 0, 0
    while any([count > 0 for count in over]):
        while over[a] <= 0:
            a += 1
        while over[b] >= 0:
            b += 1
        many = min(over[a], -over[b])
        over[a] -= many
        over[b] += many
        jumps.append((a, b, many))
    return tuple(jumps)
