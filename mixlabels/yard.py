"""A yard of vats: what is in them, and which labels they bear."""

from mixlabels.errors import Refused
from mixlabels.mixtures import blended, contained, share
from mixlabels.ratios import added
from mixlabels.tables import blend_label
from mixlabels.tasting import checked_naming
from mixlabels.things import is_below, is_number, is_sequence


class Yard:
    """Vats of one size, brought, blended and poured away; each of these deeds can be taken back."""

    def __init__(self, table, naming):
        self.naming = checked_naming(table, naming)
        self.table = table
        # For each vat that ever came: its ingredient, or the vats that it was blended of; and what it is.
        self.sources = []
        self.recipes = []
        self.mixtures = []
        self.labels = []
        self.present = {}
        # For each deed that can be taken back what it changed.
        self.deeds = []

    def __len__(self):
        return len(self.deeds)

    def vats(self):
        return tuple(sorted(self.present))

    def bring(self, ingredient):
        if not is_below(ingredient, len(self.naming)):
            raise Refused(0)
        pure = tuple([1 if i == ingredient else 0 for i in range(len(self.naming))])
        came = self.come(1, ingredient, ingredient, (0, pure))
        self.deeds.append(("vats", (), came))
        return came[0]

    def come(self, many, source, recipe, mixture):
        """Notes new vats that are all alike; their numbers."""
        label = self.label_from(source)
        first = len(self.recipes)
        for number in range(first, first + many):
            self.sources.append(source)
            self.recipes.append(recipe)
            self.mixtures.append(mixture)
            self.labels.append(label)
            self.present[number] = True
        return tuple(range(first, first + many))

    def label_from(self, source):
        if isinstance(source, tuple):
            return blend_label(self.table, [self.labels[vat] for vat in source])
        return self.naming[source]

    def blend(self, vats):
        k = self.table.k
        if not is_sequence(vats) or len(vats) != k:
            raise Refused(k)
        for at, vat in enumerate(vats):
            if not self.has(vat) or vat in vats[:at]:
                raise Refused(at)
        gone = tuple(vats)
        for vat in gone:
            self.present.pop(vat)
        recipe = tuple([self.recipes[vat] for vat in gone])
        came = self.come(k, gone, recipe, blended(k, [self.mixtures[vat] for vat in gone]))
        self.deeds.append(("vats", gone, came))
        return came

    def has(self, vat):
        return is_number(vat) and vat in self.present

    def pour(self, vat):
        self.check(vat)
        self.present.pop(vat)
        self.deeds.append(("vats", (vat,), ()))

    def check(self, vat):
        if not self.has(vat):
            raise Refused(0)

    def label(self, vat):
        self.check(vat)
        return self.labels[vat]

    def mixture(self, vat):
        self.check(vat)
        return self.mixtures[vat]

    def recipe(self, vat):
        self.check(vat)
        return self.recipes[vat]

    def stock(self):
        found = [(0, 1)] * len(self.naming)
        for vat in self.vats():
            mixture = self.mixtures[vat]
            for i in contained(mixture):
                found[i] = added(found[i], share(self.table.k, mixture, i))
        return tuple(found)

    def relabel(self, table, naming):
        names = checked_naming(table, naming)
        if table.k != self.table.k or len(names) != len(self.naming):
            raise Refused(0)
        self.deeds.append(("names", (self.table, self.naming), self.labels))
        self.table = table
        self.naming = names
        self.labels = []
        for source in self.sources:
            self.labels.append(self.label_from(source))

    def groups(self):
        found = {}
        for vat in self.vats():
            found.setdefault(self.labels[vat], []).append(vat)
        return tuple([tuple(some) for some in found.values() if len(some) > 1])

    def unlike(self):
        firsts = {}
        pairs = []
        for vat in self.vats():
            first = firsts.setdefault(self.mixtures[vat], vat)
            if self.labels[vat] != self.labels[first]:
                pairs.append((first, vat))
        return min(pairs, default=None)

    def undo(self):
        if len(self.deeds) == 0:
            return False
        what, before, behind = self.deeds.pop()
        if what == "names":
            self.table, self.naming = before
            self.labels = behind
            return True
        for vat in behind:
            self.present.pop(vat)
            self.sources.pop()
            self.recipes.pop()
            self.mixtures.pop()
            self.labels.pop()
        for vat in before:
            self.present[vat] = True
        return True

    def within(self, work):
        sources, recipes, mixtures, labels = self.sources, self.recipes, self.mixtures, self.labels
        present, deeds, table, naming = self.present, self.deeds, self.table, self.naming
        # The work is done on copies, so that what was before need not be made again.
        self.sources, self.recipes = list(sources), list(recipes)
        self.mixtures, self.labels = list(mixtures), list(labels)
        self.present, self.deeds = dict(present), list(deeds)
        try:
            return work(self)
        finally:
            self.sources, self.recipes, self.mixtures, self.labels = sources, recipes, mixtures, labels
            self.present, self.deeds, self.table, self.naming = present, deeds, table, naming
