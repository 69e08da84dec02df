"""What is open in a stock of goods, and the steps that show why its greatest worth is not reached."""

from mixlabels.costs import extra, whole
from mixlabels.questions import weighed
from mixlabels.tables import blend_label
from mixlabels.things import are_below, is_ascending, is_integer, is_tuple, tuples_of
from mixlabels.worth import goods_of


class Opening:
    """The open k-tuples and the ends that the steps of a bar leave."""

    def __init__(self, table, amounts, prices, limits):
        self.table = table
        self.held = [amount[0] for amount in amounts]
        self.goods = goods_of(table, amounts)
        self.ends = [good for good in self.goods if limits[good] == (prices[good], 1)]
        numbers = whole([(0, 1) if limit is None else limit for limit in limits])[0]
        self.lots = [cups for cups in tuples_of(self.goods, table.k) if extra(table, numbers, cups) == 0]

    def fits(self, step):
        """Whether any value is a step here."""
        if not is_tuple(step, 2):
            return False
        word, told = step
        if word == "scale":
            return self.fits_scale(told)
        if not isinstance(told, tuple) or not are_below(told, self.table.labels) or not is_ascending(told):
            return False
        if any([label not in self.goods for label in told]):
            return False
        if word == "never":
            return self.fits_never(told)
        return word == "stuck" and self.fits_stuck(told)

    def fits_never(self, labels):
        if any([self.held[label] > 0 for label in labels]):
            return False
        return all([has_cup(cups, labels) for cups in self.lots if blend_label(self.table, cups) in labels])

    def fits_stuck(self, labels):
        if any([end in labels for end in self.ends]):
            return False
        return all([blend_label(self.table, cups) in labels for cups in self.lots if has_cup(cups, labels)])

    def fits_scale(self, numbers):
        if not is_tuple(numbers, self.table.labels) or not all([is_integer(number) for number in numbers]):
            return False
        if any([numbers[end] < 0 for end in self.ends]) or self.weighs(numbers) > 0:
            return False
        return all([extra(self.table, numbers, cups) >= 0 for cups in self.lots])

    def weighs(self, numbers):
        return weighed(numbers, self.held)

    def is_last(self, step):
        """Whether a step that fits shows that there is no trade."""
        word, told = step
        if word == "stuck":
            return any([self.held[label] > 0 for label in told])
        return word == "scale" and self.weighs(told) < 0

    def take(self, step):
        """Closes what a step that fits closes."""
        word, told = step
        if word == "never":
            self.ends = [end for end in self.ends if end not in told]
            self.lots = [cups for cups in self.lots if not has_cup(cups, told)]
        elif word == "stuck":
            self.lots = [cups for cups in self.lots if blend_label(self.table, cups) not in told]
        else:
            self.ends = [end for end in self.ends if told[end] <= 0]
            self.lots = [cups for cups in self.lots if extra(self.table, told, cups) <= 0]


def has_cup(cups, labels):
    return any([cup in labels for cup in cups])


def is_bar(opening, value):
    """Whether any value is a bar; the opening is that ahead of its first step."""
    if not isinstance(value, tuple) or len(value) == 0:
        return False
    for at, step in enumerate(value):
        if not opening.fits(step) or opening.is_last(step) != (at == len(value) - 1):
            return False
        opening.take(step)
    return True
