"""Steps that change a recipe and keep its mixture."""

from mixlabels.errors import Refused
from mixlabels.leaves import leaves
from mixlabels.recipes import DEEPEST, MOST_INGREDIENTS, depth, is_place, part, placed, standing
from mixlabels.swapping import joining_steps, level_swaps
from mixlabels.things import is_sequence

UNDOING = {"split": "join", "join": "split", "swap": "swap", "turn": "turn"}


def stepped(k, recipe, steps):
    if not is_sequence(steps):
        raise Refused(0)
    now = recipe
    for at, step in enumerate(steps):
        if not can_step(k, now, step):
            raise Refused(at)
        now = behind(k, now, step)
    return now


def can_step(k, recipe, step):
    """Whether any value is a step that can be made here and leads to a recipe."""
    if not isinstance(step, tuple) or len(step) < 2 or not isinstance(step[0], str):
        return False
    if step[0] == "swap":
        return len(step) == 3 and can_swap(recipe, step[1], step[2])
    if len(step) != 2 or not is_place(recipe, step[1]):
        return False
    here = part(recipe, step[1])
    if step[0] == "split":
        return can_split(k, recipe, step[1])
    if step[0] == "join":
        return isinstance(here, tuple) and all([cup == here[0] for cup in here])
    return step[0] == "turn" and isinstance(here, tuple) and all([isinstance(cup, tuple) for cup in here])


def can_swap(recipe, place, other):
    if not is_place(recipe, place) or not is_place(recipe, other):
        return False
    return len(place) == len(other) and place != other


def can_split(k, recipe, place):
    here = standing(part(recipe, place))
    deepest = max([deep for deep, _ in here])
    many = len(standing(recipe)) + (k - 1) * len(here)
    return len(place) + 1 + deepest <= DEEPEST and many <= MOST_INGREDIENTS


def behind(k, recipe, step):
    """The recipe behind a step that can be made."""
    place = step[1]
    here = part(recipe, place)
    if step[0] == "split":
        return placed(recipe, place, (here,) * k)
    if step[0] == "join":
        return placed(recipe, place, here[0])
    if step[0] == "turn":
        return placed(recipe, place, tuple([tuple([cup[i] for cup in here]) for i in range(k)]))
    moved = part(recipe, step[2])
    return placed(placed(recipe, place, moved), step[2], here)


def behind_all(k, recipe, steps):
    now = recipe
    for step in steps:
        now = behind(k, now, step)
    return now


def undone(steps):
    """The steps that lead back."""
    return [(UNDOING[step[0]],) + step[1:] for step in reversed(steps)]


def swaps_between(one, other):
    if leaves(one) != leaves(other):
        raise Refused(0)
    steps = []
    now = one
    for deep in range(depth(one) + 1):
        swaps = level_swaps(now, other, deep)
        now = behind_all(len(swaps), now, swaps)
        steps.extend(swaps)
    return tuple(steps)


def steps_between(k, one, other):
    # Of the fewest ingredients, recipes have the same leaves exactly if their mixtures are the same.
    ahead = steps_to_fewest(k, one)
    back = steps_to_fewest(k, other)
    swaps = swaps_between(behind_all(k, one, ahead), behind_all(k, other, back))
    return tuple(ahead) + swaps + tuple(undone(back))


def steps_to_fewest(k, recipe):
    """Swaps and joins that lead to a recipe with the fewest ingredients."""
    steps = []
    now = recipe
    # A depth that is done stays done: what is joined there comes to stand above it.
    for deep in range(depth(recipe), 0, -1):
        more = joining_steps(k, now, deep)
        now = behind_all(k, now, more)
        steps.extend(more)
    return steps


def plain_steps(k, recipe, place, other):
    if not can_swap(recipe, place, other):
        raise Refused(0)
    return tuple(plain_swaps(k, recipe, place, other))


def plain_swaps(k, recipe, place, other):
    base = common_beginning(place, other)
    many = len(base)
    if len(place) == many + 1:
        return [("swap", place, other)]
    i, row = place[many:many + 2]
    j, other_row = other[many:many + 2]
    ahead = [("split", base + (at,)) for at in range(k) if not isinstance(part(recipe, base + (at,)), tuple)]
    if row != other_row:
        ahead.append(("swap", base + (j, row), base + (j, other_row)))
    # Behind the turn both parts lie in one cup, so that their places have one index more in common.
    ahead.append(("turn", base))
    between = behind_all(k, recipe, ahead)
    inner = plain_swaps(k, between, base + (row, i) + place[many + 2:], base + (row, j) + other[many + 2:])
    return ahead + inner + undone(ahead)


def common_beginning(one, other):
    many = 0
    while one[many] == other[many]:
        many += 1
    return one[:many]
