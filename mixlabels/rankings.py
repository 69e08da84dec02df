"""Rankings: orders of the labels in which a table is rising."""

from mixlabels.forms import renamed
from mixlabels.insides import inside_rows
from mixlabels.lifting import joined
from mixlabels.rising import fall
from mixlabels.things import are_below, is_ascending, is_tuple
from mixlabels.wheels import check_faithful, wheel_rows


def rankings(table):
    check_faithful(table)
    if hindrance(table) is not None:
        return ()
    return tuple(sorted(rankings_of(table, list(range(table.labels)))))


def rankings_of(table, labels):
    """All rankings of the labels below one label, and itself, in a table without hindrance."""
    if len(labels) == 0:
        return [()]
    top = labels[0]
    for label in labels:
        top = joined(table, top, label)
    below = [label for label in labels if label != top]
    # Of two branches below the top one is ranked less, the other one greater.
    one = [label for label in below if joined(table, label, below[0]) != top]
    other = [label for label in below if label not in one]
    found = {}
    for low in rankings_of(table, one):
        for high in rankings_of(table, other):
            found[low + (top,) + high] = True
            found[high + (top,) + low] = True
    return list(found)


def hindrance(table):
    """What keeps a faithful table from having a ranking, or None."""
    for wheel in wheel_rows(table):
        if len(wheel) > 1:
            return ("wheel",) + wheel[:2]
    for a in range(table.labels):
        for b in range(table.labels):
            for c in range(b + 1, table.labels):
                if is_fork(table, a, b, c):
                    return "fork", a, b, c
                if a < b and is_three(table, a, b, c):
                    return "three", a, b, c
    return None


def is_wheel(table, a, b):
    rows = inside_rows(table)
    return a in rows[b] and b in rows[a]


def is_fork(table, a, b, c):
    return joined(table, a, b) == b and joined(table, a, c) == c and joined(table, b, c) not in (b, c)


def is_three(table, a, b, c):
    top = joined(table, a, b)
    return joined(table, a, c) == top and joined(table, b, c) == top and top not in (a, b, c)


def ranking_evidence(table):
    check_faithful(table)
    wrong = hindrance(table)
    if wrong is not None:
        return wrong
    return "ranking", min(rankings_of(table, list(range(table.labels))))


def is_ranking_evidence(table, value):
    check_faithful(table)
    if not isinstance(value, tuple) or len(value) == 0 or not isinstance(value[0], str):
        return False
    if value[0] == "ranking":
        return len(value) == 2 and is_ranking(table, value[1])
    told = value[1:]
    if not are_below(told, table.labels):
        return False
    if value[0] == "wheel":
        return len(told) == 2 and is_ascending(told) and is_wheel(table, told[0], told[1])
    if len(told) != 3 or not is_ascending(told[1:]):
        return False
    if value[0] == "fork":
        return is_fork(table, told[0], told[1], told[2])
    return value[0] == "three" and is_ascending(told) and is_three(table, told[0], told[1], told[2])


def is_ranking(table, value):
    if not is_tuple(value, table.labels) or not are_below(value, table.labels):
        return False
    if len(set(value)) < table.labels:
        return False
    return fall(renamed(table, [value.index(label) for label in range(table.labels)])) is None
