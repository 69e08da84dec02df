"""Cells: mixtures of the same ingredients that lie on the same sides of some linear forms."""

from itertools import combinations
from math import gcd, lcm

from mixlabels.arithmetic import power, sign
from mixlabels.lattices import Echelon, common_zero, unit_rows
from mixlabels.mixtures import lowest
from mixlabels.questions import weighed
from mixlabels.ratios import made

SIDES = (-1, 0, 1)


class Cells:
    """The cells of all mixtures that contain just some ingredients, in the order of their patterns."""

    def __init__(self, k, comparisons, some):
        self.k = k
        self.some = some
        # The shares sum to 1, so b is as much as b times their sum.
        self.forms = [[c[i] - b for i in some] for c, b in comparisons]
        self.rays = rays_of(self.forms, len(some))
        found = cells_between(self.forms, self.rays)
        self.patterns = [pattern for pattern, _ in found]
        self.corners = [corners for _, corners in found]
        self.flats = {}
        # Lots of cells are told by numbers, whose binary digits are 1 where a cell is among them.
        self.every = mask_of([True] * len(found))
        self.free = mask_of([self.is_free(pattern) for pattern in self.patterns])
        self.zero = [mask_of([pattern[j] == 0 for pattern in self.patterns]) for j in range(len(comparisons))]
        self.least = [mask_of([pattern[j] >= 0 for pattern in self.patterns]) for j in range(len(comparisons))]

    def is_free(self, pattern):
        return all([side != 0 or not any(form) for side, form in zip(pattern, self.forms)])

    def zeros(self, at):
        """The forms that are 0 in a cell."""
        return tuple([j for j, side in enumerate(self.patterns[at]) if side == 0])

    def flat(self, at):
        """The equations that hold in a cell."""
        zeros = self.zeros(at)
        if zeros not in self.flats:
            rows = [self.forms[j] for j in zeros] + [[1] * len(self.some)]
            self.flats[zeros] = Echelon(rows, len(self.some))
        return self.flats[zeros]

    def told(self, at, modulus, rests):
        """What the equations tell about mixtures of the cell with these remainders; None if there are none."""
        # A share is its remainder and the modulus times an unknown.
        kept = [rests[i] for i in self.some]
        sums = [-weighed(self.forms[j], kept) for j in self.zeros(at)] + [1 - sum(kept)]
        return self.flat(at).solved(self.k, [made(total, modulus) for total in sums])

    def is_met(self, at, modulus, rests):
        """Whether some mixture of the cell has these remainders."""
        return is_in(self.free, at) or self.told(at, modulus, rests) is not None

    def first_met(self, mask, modulus, rests):
        """The first of these cells with such a mixture, a free one if there is one, or None."""
        for lot in (mask & self.free, mask & ~self.free):
            for at in range(len(self.patterns)):
                if is_in(lot, at) and self.is_met(at, modulus, rests):
                    return at
        return None

    def mixture(self, at, modulus, rests):
        """Some mixture of the cell with these remainders, of which there are some."""
        finder = MixtureFinder(self, at, modulus, rests)
        # What is less fine than this leaves too few mixtures to be looked at.
        depth = depth_within(self.k, modulus)
        n, counts = finder.near_middle(depth)
        while not self.is_inside(at, counts):
            depth += 1
            n, counts = finder.near_middle(depth)
        row = [0] * len(rests)
        for place, i in enumerate(self.some):
            row[i] = counts[place]
        return lowest(self.k, n, row)

    def inner_point(self, at):
        """A point inside a cell, by integers in proportion to its shares."""
        corners = [ray for place, ray in enumerate(self.rays) if is_in(self.corners[at], place)]
        scale = 1
        for ray in corners:
            scale = lcm(scale, sum(ray))
        return [sum([ray[i] * (scale // sum(ray)) for ray in corners]) for i in range(len(self.some))]

    def is_inside(self, at, counts):
        if any([count <= 0 for count in counts]):
            return False
        return all([sign(weighed(form, counts)) == side for form, side in zip(self.forms, self.patterns[at])])


class MixtureFinder:
    """Looks for mixtures with some remainders near the middle of a cell."""

    def __init__(self, cells, at, modulus, rests):
        self.k = cells.k
        self.modulus = modulus
        self.kept = [rests[i] for i in cells.some]
        self.echelon = cells.flat(at)
        self.fixed = cells.told(at, modulus, rests)
        middle = cells.inner_point(at)
        old = [count - rest * sum(middle) for count, rest in zip(middle, self.kept)]
        # The unknowns of the middle itself, times the bottom.
        self.aims = [weighed(row, old) for row in self.echelon.back]
        self.bottom = sum(middle) * modulus

    def near_middle(self, depth):
        """A pair (n, counts), where the unknowns that are free are integers divided by k ** depth."""
        n = max([depth] + [exponent_for(self.k, below) for _, below in self.fixed])
        fine = power(self.k, depth)
        scale = power(self.k, n)
        new = [top * (scale // below) for top, below in self.fixed]
        for aim in self.aims[len(self.fixed):]:
            new.append((2 * aim * fine + self.bottom) // (2 * self.bottom) * (scale // fine))
        counts = []
        for rest, row in zip(self.kept, self.echelon.columns):
            counts.append(rest * scale + self.modulus * weighed(row, new))
        return n, counts


def is_in(mask, at):
    return mask >> at & 1 == 1


def mask_of(told):
    """A number whose binary digits, from the right, are 1 where it is told."""
    return sum([1 << at for at, here in enumerate(told) if here])


def depth_within(k, limit):
    """The greatest depth for which k ** depth is at most the limit."""
    depth = 0
    scale = k
    while scale <= limit:
        depth += 1
        scale = scale * k
    return depth


def exponent_for(k, number):
    """The least exponent for which a power of k is a multiple of the number, which divides some."""
    exponent = 0
    scale = 1
    while scale % number != 0:
        exponent += 1
        scale = scale * k
    return exponent


def rays_of(forms, many):
    """The corners of all cells, but for a factor: there so many forms or shares are 0 that they tell the rest."""
    lines = unit_rows(many) + forms
    found = {}
    for rows in combinations(lines, int(many - 1)):
        ray = common_zero(list(rows), many)
        both = sign(sum(ray)) * common_divisor(ray)
        if both != 0 and all([count * both >= 0 for count in ray]):
            found[tuple([count // both for count in ray])] = True
    return list(found)


def common_divisor(counts):
    found = 0
    for count in counts:
        found = gcd(found, count)
    return found


def cells_between(forms, rays):
    """The pairs (pattern, corners) of all cells, ascending."""
    sides = [[mask_of([sign(weighed(form, ray)) == side for ray in rays]) for side in SIDES] for form in forms]
    needs = [mask_of([ray[i] > 0 for ray in rays]) for i in range(len(rays[0]))]
    found = [((), mask_of([True] * len(rays)))]
    for at, (low, zero, high) in enumerate(sides):
        split = []
        for pattern, corners in found:
            # The middle of some corners is on a side if one of them is, and none is on the other.
            split.append((pattern + (-1,), corners & (low | zero)))
            split.append((pattern + (0,), corners & zero))
            split.append((pattern + (1,), corners & (zero | high)))
        found = [(pattern, corners) for pattern, corners in split if is_filled(pattern, corners, sides[:at + 1], needs)]
    return found


def is_filled(pattern, corners, sides, needs):
    """Whether the middle of the corners has the pattern, and no share of 0."""
    if any([corners & need == 0 for need in needs]):
        return False
    return all([corners & masks[1 + side] != 0 for masks, side in zip(sides, pattern)])
