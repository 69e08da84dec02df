"""Recipes: ingredients, and tuples of recipes."""

from mixlabels.errors import InvalidBowl, InvalidQuestion, InvalidRecipe
from mixlabels.things import is_below, is_integer

DEEPEST = 12
MOST_INGREDIENTS = 2000


def is_bowl(value):
    return is_integer(value) and 2 <= value <= 5


def checked_bowl(value):
    if not is_bowl(value):
        raise InvalidBowl(0)
    return value


def is_recipe(k, ingredients, value):
    return read_ahead_of_wrong((k,), ingredients, value) is None


def checked_recipe(k, ingredients, value):
    checked_bowl(k)
    read = read_ahead_of_wrong((k,), ingredients, value)
    if read is not None:
        raise InvalidRecipe(read)
    return value


def read_ahead_of_wrong(sizes, ingredients, value):
    """How many ingredients stand ahead of the first part that is wrong, or None; blends have some of these sizes."""
    waiting = [(value, 0)]
    read = 0
    while len(waiting) > 0:
        here, deep = waiting.pop()
        if is_below(here, ingredients) and read < MOST_INGREDIENTS:
            read += 1
        elif isinstance(here, tuple) and len(here) in sizes and deep < DEEPEST:
            for cup in reversed(here):
                waiting.append((cup, deep + 1))
        else:
            return read
    return None


def standing(recipe):
    """The pairs (depth, ingredient) from left to right."""
    found = []
    waiting = [(recipe, 0)]
    while len(waiting) > 0:
        here, deep = waiting.pop()
        if isinstance(here, tuple):
            for cup in reversed(here):
                waiting.append((cup, deep + 1))
        else:
            found.append((deep, here))
    return found


def ingredient_row(recipe):
    return tuple([ingredient for _, ingredient in standing(recipe)])


def depth(recipe):
    return max([deep for deep, _ in standing(recipe)])


def is_place(recipe, value):
    """Whether any value is a place of this recipe."""
    if not isinstance(value, tuple):
        return False
    here = recipe
    for at in value:
        if not isinstance(here, tuple) or not is_below(at, len(here)):
            return False
        here = here[at]
    return True


def part(recipe, place):
    if not is_place(recipe, place):
        raise InvalidQuestion(0)
    here = recipe
    for at in place:
        here = here[at]
    return here


def placed(recipe, place, new):
    if not is_place(recipe, place):
        raise InvalidQuestion(0)
    above = []
    here = recipe
    for at in place:
        above.append((here, at))
        here = here[at]
    done = new
    for blend, at in reversed(above):
        done = blend[:at] + (done,) + blend[at + 1:]
    return done
