"""Recipes as texts."""

from mixlabels.errors import InvalidText
from mixlabels.recipes import DEEPEST, MOST_INGREDIENTS

DIGITS = "0123456789"


def recipe_text(recipe):
    if not isinstance(recipe, tuple):
        return str(recipe)
    return "(" + " ".join([recipe_text(cup) for cup in recipe]) + ")"


def read_recipe(k, ingredients, text):
    if not isinstance(text, str):
        raise InvalidText(0)
    reader = RecipeReader(k, ingredients, text)
    while reader.whole is None:
        reader.read_part()
    if reader.at < len(text):
        raise InvalidText(reader.at)
    return reader.whole


class RecipeReader:
    """Reads a text from left to right; it stops at the first character with which no recipe goes on."""

    def __init__(self, k, ingredients, text):
        self.k = k
        self.ingredients = ingredients
        self.text = text
        self.at = 0
        self.blends = []
        # So many ingredients the recipe has at least, whatever is still to come.
        self.least = 1
        self.whole = None

    def sign(self):
        """The next character, an empty text at the end."""
        return self.text[self.at:self.at + 1]

    def read_part(self):
        sign = self.sign()
        if sign == "(" and self.has_room():
            self.at += 1
            self.least += self.k - 1
            self.blends.append([])
        elif sign != "" and sign in DIGITS and int(sign) < self.ingredients:
            self.put(self.read_ingredient())
        else:
            raise InvalidText(self.at)

    def has_room(self):
        return len(self.blends) < DEEPEST and self.least + self.k - 1 <= MOST_INGREDIENTS

    def read_ingredient(self):
        found = int(self.sign())
        self.at += 1
        sign = self.sign()
        if found > 0 and sign != "" and sign in DIGITS and 10 * found + int(sign) < self.ingredients:
            found = 10 * found + int(sign)
            self.at += 1
        return found

    def put(self, recipe):
        """Puts a part where it stands, and closes all blends that end there."""
        done = recipe
        while len(self.blends) > 0:
            self.blends[-1].append(done)
            full = len(self.blends[-1]) == self.k
            if self.sign() != (")" if full else " "):
                raise InvalidText(self.at)
            self.at += 1
            if not full:
                return
            done = tuple(self.blends.pop())
        self.whole = done
