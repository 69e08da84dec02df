"""Bowl stories: labels do not tell whether a bowl was needed."""

from mixlabels.across import mixed_taste
from mixlabels.errors import Refused
from mixlabels.mixed import is_made_of, is_mixed, mixed_shares
from mixlabels.things import is_tuple


def bowl_story(rack, naming, k, l):
    if is_made_of(l, (k,)):
        raise Refused(0)
    names = tuple(naming)
    # The line from ingredient 0 to 1 by bowl l, up to the first label that comes a second time.
    recipes = [0]
    labels = [names[0]]
    while labels[-1] not in labels[:-1]:
        recipes.append((recipes[-1],) + (1,) * (l - 1))
        labels.append(mixed_taste(rack, names, recipes[-1]))
    start = labels.index(labels[-1])
    # Beside the like recipe of ingredient 1 the shares of what comes first add up to a whole cup.
    beside = 1
    for _ in range(start):
        beside = (beside,) + (0,) * (l - 1)
    rest = (beside,) + (1,) * (k - 2)
    return (recipes[start],) + rest, (recipes[-1],) + rest


def is_bowl_story(rack, naming, k, value):
    names = tuple(naming)
    if not is_tuple(value, 2) or not all([is_mixed(rack.sizes, len(names), recipe) for recipe in value]):
        return False
    one, other = [mixed_shares(len(names), recipe) for recipe in value]
    if [share[0] == 0 for share in one] != [share[0] == 0 for share in other]:
        return False
    if mixed_taste(rack, names, value[0]) != mixed_taste(rack, names, value[1]):
        return False
    return can_be_made(k, one) and not can_be_made(k, other)


def can_be_made(k, shares):
    """Whether recipes of one bowl size have these shares."""
    return all([is_made_of(bottom, (k,)) for _, bottom in shares])
