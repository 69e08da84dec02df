"""A desk: a yard told what to do in words."""

from mixlabels.errors import InvalidCommand
from mixlabels.faults import fault
from mixlabels.tables import Table
from mixlabels.yard import Yard

DIGITS = "0123456789"
MOST_DIGITS = 4
# Words behind the first one: how many at least and at most, None for any number.
WORDS = {
    "table": (3, None), "bring": (1, 1), "blend": (1, None), "pour": (1, 1), "label": (1, 1), "mixture": (1, 1),
    "vats": (0, 0), "faithful": (0, 0), "undo": (0, 0),
}


class Desk:
    """A yard, none at first, and the commands for it."""

    def __init__(self):
        self.yard = None

    def say(self, command):
        word, numbers = read_command(command)
        if word == "table":
            table = Table(numbers[0], numbers[1], numbers[2:])
            self.yard = Yard(table, list(range(table.labels)))
            return "ok"
        if self.yard is None:
            raise InvalidCommand()
        if len(numbers) == 0:
            return self.answer(word)
        return self.act(word, numbers)

    def act(self, word, numbers):
        if word == "bring":
            return str(self.yard.bring(numbers[0]))
        if word == "blend":
            return spaced(self.yard.blend(numbers))
        if word == "pour":
            self.yard.pour(numbers[0])
            return "ok"
        if word == "label":
            return str(self.yard.label(numbers[0]))
        counts = self.yard.mixture(numbers[0])[1]
        return f"{spaced(counts)} of {sum(counts)}"

    def answer(self, word):
        if word == "vats":
            rows = [f"{vat}:{self.yard.label(vat)}" for vat in self.yard.vats()]
            return " ".join(rows) if rows else "none"
        if word == "faithful":
            return "yes" if fault(self.yard.table) is None else "no"
        return "ok" if self.yard.undo() else "nothing"


def read_command(command):
    """The first word of a command, and the numbers behind it."""
    if not isinstance(command, str):
        raise InvalidCommand()
    words = command.split(" ")
    if words[0] not in WORDS:
        raise InvalidCommand()
    least, most = WORDS[words[0]]
    many = len(words) - 1
    if many < least or most is not None and many > most or not all([is_written(word) for word in words[1:]]):
        raise InvalidCommand()
    return words[0], [int(word) for word in words[1:]]


def is_written(word):
    """Whether a word is a number as commands write it."""
    if not 1 <= len(word) <= MOST_DIGITS or any([sign not in DIGITS for sign in word]):
        return False
    return word == "0" or word[0] != "0"


def spaced(numbers):
    return " ".join([str(number) for number in numbers])
