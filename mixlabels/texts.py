"""Tables as texts."""

from mixlabels.arithmetic import power
from mixlabels.errors import InvalidText
from mixlabels.recipes import is_bowl
from mixlabels.tables import MOST_LABELS, Table, fits


def table_text(table):
    lines = [f"bowl {table.k} labels {table.labels}"]
    for at in range(0, len(table.results), table.labels):
        lines.append(" ".join([str(label) for label in table.results[at:at + table.labels]]))
    return "\n".join(lines)


def read_table(text):
    if not isinstance(text, str):
        raise InvalidText(0)
    lines = text.split("\n")
    size = read_size(lines[0])
    if size is None:
        raise InvalidText(0)
    k, labels = size
    many = 1 + power(labels, k - 1)
    results = []
    for at in range(1, len(lines)):
        row = read_row(lines[at], labels)
        if at >= many or row is None:
            raise InvalidText(at)
        results.extend(row)
    if len(lines) < many:
        raise InvalidText(len(lines))
    return Table(k, labels, results)


def read_size(line):
    """The bowl size and the number of labels that a first line tells, or None."""
    words = line.split(" ")
    if len(words) != 4 or words[0] != "bowl" or words[2] != "labels":
        return None
    k = read_number(words[1])
    labels = read_number(words[3])
    if k is None or labels is None or not is_bowl(k) or not fits(k, labels):
        return None
    return k, labels


def read_row(line, labels):
    """The labels that a line tells, or None."""
    row = [read_number(word) for word in line.split(" ")]
    if len(row) != labels or any([label is None or label >= labels for label in row]):
        return None
    return row


def read_number(word):
    """The number up to the greatest number of labels that is written so, or None."""
    for number in range(MOST_LABELS + 1):
        if str(number) == word:
            return number
    return None
