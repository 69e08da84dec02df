"""Racks: tables of several bowl sizes for the same labels."""

from mixlabels.errors import InvalidTable, Refused
from mixlabels.standard import standard_table
from mixlabels.tables import Table, blend_label
from mixlabels.things import first_not_below, is_sequence


class Rack:
    """Tables with unlike bowl sizes and equally many labels, ascending by bowl size."""

    def __init__(self, tables):
        if not is_sequence(tables) or len(tables) == 0:
            raise InvalidTable(0)
        by_size = {}
        for at, table in enumerate(tables):
            if not isinstance(table, Table) or table.k in by_size or table.labels != tables[0].labels:
                raise InvalidTable(at)
            by_size[table.k] = table
        self.sizes = tuple(sorted(by_size))
        self.tables = tuple([by_size[size] for size in self.sizes])
        self.labels = self.tables[0].labels

    def __eq__(self, other):
        if not isinstance(other, Rack):
            return False
        return self.tables == other.tables

    def blend(self, cups):
        if not is_sequence(cups):
            raise Refused(0)
        wrong = first_not_below(cups, self.labels)
        if wrong is not None:
            raise Refused(wrong)
        if len(cups) not in self.sizes:
            raise Refused(len(cups))
        return blend_label(self.tables[self.sizes.index(len(cups))], cups)


def standard_rack(sizes, m, d):
    return Rack([standard_table(k, m, d) for k in sizes])
