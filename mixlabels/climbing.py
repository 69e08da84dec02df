"""Ladders above one another."""

from mixlabels.errors import Refused
from mixlabels.ladders import leader_of
from mixlabels.outlines import outline_by
from mixlabels.things import is_below, is_sequence


def excess(one, other):
    for x in range(len(one)):
        for y in range(x + 1, len(one)):
            if leader_of(one, x, y) > leader_of(other, x, y):
                return x, y
    return None


def sway(outline):
    places = places_of(outline)
    found = []
    for y in range(len(outline)):
        many = 0
        while many < y and places[y - many - 1] > places[y]:
            many += 1
        found.append(many)
    return tuple(found)


def places_of(outline):
    """The index of each label in the outline."""
    return [outline.index(label) for label in range(len(outline))]


def outline_of_sway(numbers):
    if not is_sequence(numbers) or len(numbers) == 0:
        raise Refused(0)
    for y in range(len(numbers)):
        if not goes_on(numbers, y):
            raise Refused(y)
    return outline_swayed(numbers, 0, len(numbers) - 1)


def goes_on(numbers, y):
    """Whether a number, behind others that are the beginning of a sway, goes on with it."""
    if not is_below(numbers[y], y + 1):
        return False
    low = y - numbers[y]
    return all([w - numbers[w] >= low for w in range(low, y)])


def outline_swayed(numbers, low, high):
    """The outline of the labels from low to high, for numbers that are a sway."""
    if low > high:
        return ()
    # Behind the first label none is the leader of itself and the lowest one.
    first = max([t for t in range(low, high + 1) if t - numbers[t] <= low])
    return (first,) + outline_swayed(numbers, low, first - 1) + outline_swayed(numbers, first + 1, high)


def greatest_below(one, other):
    return outline_of_sway([min(a, b) for a, b in zip(sway(one), sway(other))])


def least_above(one, other):
    return mirrored(greatest_below(mirrored(one), mirrored(other)))


def mirrored(outline):
    """The outline with the labels called the other way round, so that what was above is below."""
    return outline_by([len(outline) - 1 - label for label in outline])


def just_above(outline):
    return tuple(sorted([outline_of_sway(numbers) for numbers in raised(outline)]))


def just_below(outline):
    return tuple(sorted([mirrored(above) for above in just_above(mirrored(outline))]))


def raised(outline):
    """The sways of all ladders just above."""
    numbers = sway(outline)
    places = places_of(outline)
    found = []
    for c in range(len(outline)):
        p = c - numbers[c] - 1
        # From p the labels up to c, and those beyond that c leads, can pass to c.
        if p >= 0 and is_next(places, p, c):
            found.append(numbers[:c] + (numbers[c] + 1 + numbers[p],) + numbers[c + 1:])
    return found


def is_next(places, p, c):
    """Whether p comes last of the labels that lead all that c leads."""
    above = c + 1
    while above < len(places) and places[above] > places[c]:
        above += 1
    return above == len(places) or places[above] < places[p]


def climb(one, other):
    if excess(one, other) is not None:
        raise Refused(0)
    goal = sway(other)
    found = [one]
    while sway(found[-1]) != goal:
        ways = [numbers for numbers in raised(found[-1]) if all([a <= b for a, b in zip(numbers, goal)])]
        found.append(outline_of_sway(ways[0]))
    return tuple(found)
