"""Questions about mixtures."""

from math import lcm

from mixlabels.arithmetic import power
from mixlabels.errors import InvalidQuestion
from mixlabels.mixtures import remainders
from mixlabels.oracles import is_small_modulus
from mixlabels.things import is_below, is_integer, is_sequence

LENGTHS = {"has": 2, "least": 3, "equal": 3, "rest": 4, "not": 2}
MOST_PARTS = 300
DEEPEST_INSIDE = 8


def checked_question(k, ingredients, value):
    return QuestionReader(k, ingredients).read(value, 0)


class QuestionReader:
    """Reads the parts of a question, each ahead of those inside it, and numbers them."""

    def __init__(self, k, ingredients):
        self.k = k
        self.ingredients = ingredients
        self.many = 0

    def read(self, value, inside):
        at = self.many
        self.many += 1
        if at >= MOST_PARTS or inside > DEEPEST_INSIDE or not self.is_suitable(value):
            raise InvalidQuestion(at)
        word = value[0]
        if word in ("not", "and", "or"):
            return (word,) + tuple([self.read(inner, inside + 1) for inner in value[1:]])
        if word == "has":
            return word, value[1]
        if word == "rest":
            return word, value[1], tuple(value[2]), value[3]
        return word, tuple(value[1]), value[2]

    def is_suitable(self, value):
        """Whether a part is well made but for the parts inside it."""
        if not is_sequence(value) or len(value) == 0 or not isinstance(value[0], str):
            return False
        word = value[0]
        if word in ("and", "or"):
            return True
        if word not in LENGTHS or len(value) != LENGTHS[word]:
            return False
        if word == "has":
            return is_below(value[1], self.ingredients)
        if word == "rest":
            return self.is_rest(value[1], value[2], value[3])
        return word == "not" or self.are_weights(value[1]) and is_integer(value[2])

    def is_rest(self, modulus, weights, rest):
        if not is_small_modulus(self.k, modulus):
            return False
        return self.are_weights(weights) and is_below(rest, modulus)

    def are_weights(self, value):
        if not is_sequence(value) or len(value) != self.ingredients:
            return False
        return all([is_integer(weight) for weight in value])


def answer(k, question, mixture):
    return answer_of(k, checked_question(k, len(mixture[1]), question), mixture)


def answer_of(k, question, mixture):
    """The answer to a question that is known to be one."""
    word = question[0]
    if word == "has":
        return mixture[1][question[1]] > 0
    if word == "not":
        return not answer_of(k, question[1], mixture)
    if word == "and":
        return all([answer_of(k, inner, mixture) for inner in question[1:]])
    if word == "or":
        return any([answer_of(k, inner, mixture) for inner in question[1:]])
    if word == "rest":
        modulus = question[1]
        return weighed(question[2], remainders(k, mixture, modulus)) % modulus == question[3]
    n, counts = mixture
    total = weighed(question[1], counts)
    bound = question[2] * power(k, n)
    if word == "equal":
        return total == bound
    return total >= bound


def weighed(weights, counts):
    return sum([weights[at] * count for at, count in enumerate(counts)])


def parts_of(question):
    """All parts of a question that is known to be one, in their order."""
    found = []
    waiting = [question]
    while len(waiting) > 0:
        here = waiting.pop()
        found.append(here)
        if here[0] in ("not", "and", "or"):
            waiting.extend(list(reversed(here[1:])))
    return found


def comparisons(k, ingredients, question):
    checked = checked_question(k, ingredients, question)
    return tuple(sorted(set([found[1:] for found in parts_of(checked) if found[0] in ("least", "equal")])))


def question_modulus(k, ingredients, question):
    checked = checked_question(k, ingredients, question)
    modulus = 1
    for found in parts_of(checked):
        if found[0] == "rest":
            modulus = lcm(modulus, found[1])
    return modulus
