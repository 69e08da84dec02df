"""What some told cells of an unseen faithful table tell about the others."""

from mixlabels.errors import InvalidPair
from mixlabels.following import sure_alike
from mixlabels.foldings import mixture_key
from mixlabels.likenesses import Likenesses, check_sizes
from mixlabels.mixtures import made_mixture
from mixlabels.things import are_below, is_below, is_sequence


def cells_told(k, labels, cells):
    check_sizes(k, labels)
    if not is_sequence(cells):
        raise InvalidPair(0)
    pairs = []
    for at, cell in enumerate(cells):
        if not is_cell(k, labels, cell):
            raise InvalidPair(at)
        cups, label = cell
        pairs.append((blend_of(k, labels, cups), pure(labels, label)))
    return Likenesses(k, labels, pairs)


def is_cell(k, labels, value):
    if not is_sequence(value) or len(value) != 2:
        return False
    cups, label = value
    return is_sequence(cups) and len(cups) == k and are_below(cups, labels) and is_below(label, labels)


def blend_of(k, ingredients, cups):
    return made_mixture(k, 1, [cups.count(i) for i in range(ingredients)])


def pure(ingredients, at):
    return 0, tuple([1 if i == at else 0 for i in range(ingredients)])


def sure_result(told, cups):
    mixture = blend_of(told.k, told.ingredients, cups)
    for label in range(told.ingredients):
        if sure_alike(told, mixture, pure(told.ingredients, label)):
            return label
    return None


def same_labels(told):
    found = {}
    for label in range(told.ingredients):
        found.setdefault(mixture_key(told, pure(told.ingredients, label)), []).append(label)
    return tuple([tuple(some) for some in found.values() if len(some) > 1])
