"""The finest book that keeps what is told, and the classes of mixtures that it tells apart."""

from mixlabels.arithmetic import power
from mixlabels.errors import Refused
from mixlabels.following import sure_alike
from mixlabels.foldings import Folding, mixture_key
from mixlabels.lattices import unit_rows
from mixlabels.likenesses import Likenesses, is_sealed, sealed_around, sealed_sets
from mixlabels.tables import Table, fits
from mixlabels.things import are_below, is_ascending, tuples_below


def sure_form(told, some):
    if not isinstance(some, tuple) or len(some) == 0 or not are_below(some, told.ingredients):
        raise Refused(0)
    if not is_ascending(some) or not is_sealed(told, some):
        raise Refused(0)
    moduli = Folding(told, some).moduli
    return moduli.count(0), tuple([modulus for modulus in moduli if modulus > 1])


def class_count(told):
    total = 0
    for some in sealed_sets(told):
        rank, orders = sure_form(told, some)
        if rank > 0:
            return None
        many = 1
        for order in orders:
            many = many * order
        total += many
    return total


class ClassRows:
    """The classes of sure alike mixtures, if they are few: for each one integers that are like its shares."""

    def __init__(self, told):
        self.likenesses = told
        self.foldings = {some: Folding(told, some) for some in sealed_sets(told)}
        self.rows = []
        self.labels = {}
        for some in self.foldings:
            self.note(some)

    def note(self, some):
        """Notes all classes with this sealing, beginning with its first ingredient alone."""
        units = unit_rows(self.likenesses.ingredients)
        waiting = [units[some[0]]]
        while len(waiting) > 0:
            row = waiting.pop()
            key = self.key(some, row, 0)
            if key not in self.labels:
                self.labels[key] = len(self.rows)
                self.rows.append((some, row))
                for i in some[1:]:
                    waiting.append([a + b - c for a, b, c in zip(row, units[i], units[some[0]])])

    def key(self, some, row, n):
        return some, self.foldings[some].marks([row[i] for i in some[1:]], n)

    def blend(self, cups):
        rows = [self.rows[cup] for cup in cups]
        within = ()
        for inner, _ in rows:
            within = within + inner
        some = sealed_around(self.likenesses, tuple(sorted(set(within))))
        sums = [sum([row[i] for _, row in rows]) for i in range(self.likenesses.ingredients)]
        return self.labels[self.key(some, sums, 1)]


def finest_book(told):
    many = class_count(told)
    if many is None:
        raise Refused(0)
    if not fits(told.k, many):
        raise Refused(1)
    found = ClassRows(told)
    results = [found.blend(cups) for cups in tuples_below(many, told.k)]
    naming = [found.labels[mixture_key(told, (0, tuple(row)))] for row in unit_rows(told.ingredients)]
    return Table(told.k, many, results), tuple(naming)


def first_alike(told, mixture):
    key = mixture_key(told, mixture)
    n = 0
    # The mixture is alike itself, so that one is found; and what is no mixture has the shares of an earlier one.
    while True:
        for counts in rows_with_sum(power(told.k, n), told.ingredients):
            if mixture_key(told, (n, counts)) == key:
                return n, counts
        n += 1


def rows_with_sum(total, many):
    """All tuples of so many numbers with this sum, ascending."""
    if many == 1:
        return [(total,)]
    return [(first,) + rest for first in range(total + 1) for rest in rows_with_sum(total - first, many - 1)]


def needless(told):
    found = []
    for at, (one, other) in enumerate(told.pairs):
        others = Likenesses(told.k, told.ingredients, told.pairs[:at] + told.pairs[at + 1:])
        if sure_alike(others, one, other):
            found.append(at)
    return tuple(found)
