"""Ladders that keep wishes about their leaders."""

from mixlabels.errors import InvalidQuestion, Refused
from mixlabels.ladders import leader_of
from mixlabels.outlines import outline_by
from mixlabels.things import are_below, is_below, is_sequence, is_tuple


class Wished:
    """How many outlines of all labels from a to b keep all wishes; `wishes` is any value."""

    def __init__(self, n, wishes):
        check_wishes(n, wishes)
        self.wishes = list(wishes)
        # For b = a - 1 there are no labels: one outline.
        self.counts = {(a, a - 1): 1 for a in range(n + 1)}
        for many in range(n):
            for a in range(n - many):
                self.counts[(a, a + many)] = sum([self.with_first(a, a + many, t) for t in range(a, a + many + 1)])

    def with_first(self, a, b, t):
        """How many of them begin with the label t."""
        if self.broken(a, b, t) is not None:
            return 0
        return self.counts[(a, t - 1)] * self.counts[(t + 1, b)]

    def broken(self, a, b, t):
        """The index of the first wish that is broken if t is the first of the labels from a to b, or None."""
        for at, (x, y, low, high) in enumerate(self.wishes):
            if a <= x <= t <= y <= b and not low <= t <= high:
                return at
        return None

    def nth(self, a, b, at):
        """The outline with this index of those of the labels from a to b."""
        if a > b:
            return ()
        t = a
        ahead = at
        while ahead >= self.with_first(a, b, t):
            ahead -= self.with_first(a, b, t)
            t += 1
        less, greater = divmod(ahead, self.counts[(t + 1, b)])
        return (t,) + self.nth(a, t - 1, less) + self.nth(t + 1, b, greater)


def check_wishes(n, wishes):
    if not is_sequence(wishes):
        raise InvalidQuestion(0)
    for at, wish in enumerate(wishes):
        if not is_wish(n, wish):
            raise InvalidQuestion(at)


def is_wish(n, value):
    if not is_tuple(value, 4) or not are_below(value, n):
        return False
    return value[0] <= value[1] and value[2] <= value[3]


def wished_count(n, wishes):
    return Wished(n, wishes).counts[(0, n - 1)]


def nth_wished(n, wishes, at):
    wished = Wished(n, wishes)
    if not is_below(at, wished.counts[(0, n - 1)]):
        raise Refused(0)
    return wished.nth(0, n - 1, at)


def leaders(n, wishes, x, y):
    check_wishes(n, wishes)
    low, high = min(x, y), max(x, y)
    return tuple([t for t in range(low, high + 1) if wished_count(n, list(wishes) + [(low, high, t, t)]) > 0])


def wish_evidence(n, wishes):
    wished = Wished(n, wishes)
    if wished.counts[(0, n - 1)] > 0:
        return "outline", wished.nth(0, n - 1, 0)
    rows = []
    numbers = {}
    for many in range(n):
        for a in range(n - many):
            if wished.counts[(a, a + many)] == 0:
                reasons = [reason(wished, numbers, (a, a + many), t) for t in range(a, a + many + 1)]
                numbers[(a, a + many)] = len(rows)
                rows.append((a, a + many, tuple(reasons)))
    return "none", tuple(rows)


def reason(wished, numbers, ends, t):
    """Why t is not the first of some labels, of which no outline keeps all wishes."""
    a, b = ends
    broken = wished.broken(a, b, t)
    if broken is not None:
        return "wish", broken
    if (a, t - 1) in numbers:
        return "row", numbers[(a, t - 1)]
    return "row", numbers[(t + 1, b)]


def is_wish_evidence(n, wishes, value):
    check_wishes(n, wishes)
    if not is_tuple(value, 2) or not isinstance(value[0], str):
        return False
    if value[0] == "outline":
        return is_outline(n, value[1]) and keeps_all(wishes, value[1])
    return value[0] == "none" and are_rows(n, wishes, value[1])


def is_outline(n, value):
    return is_tuple(value, n) and are_below(value, n) and outline_by(value) == value


def keeps_all(wishes, outline):
    return all([low <= leader_of(outline, x, y) <= high for x, y, low, high in wishes])


def are_rows(n, wishes, value):
    if not isinstance(value, tuple) or len(value) == 0:
        return False
    for at, row in enumerate(value):
        if not is_row(n, wishes, value[:at], row):
            return False
    return value[-1][:2] == (0, n - 1)


def is_row(n, wishes, ahead, value):
    """Whether any value is a row behind these ones."""
    if not is_tuple(value, 3) or not are_below(value[:2], n) or value[0] > value[1]:
        return False
    a, b, reasons = value
    if not is_tuple(reasons, b - a + 1):
        return False
    return all([is_reason(wishes, ahead, (a, b, a + at), told) for at, told in enumerate(reasons)])


def is_reason(wishes, ahead, where, value):
    if not is_tuple(value, 2) or not isinstance(value[0], str):
        return False
    a, b, t = where
    word, index = value
    if word == "wish" and is_below(index, len(wishes)):
        x, y, low, high = wishes[index]
        return a <= x <= t <= y <= b and not low <= t <= high
    if word == "row" and is_below(index, len(ahead)):
        return ahead[index][:2] in ((a, t - 1), (t + 1, b))
    return False
