"""What kind of thing a value is."""


def is_integer(value):
    return isinstance(value, int) and not isinstance(value, bool)


def is_number(value):
    return is_integer(value) and value >= 0


def is_below(value, limit):
    return is_number(value) and value < limit


def is_sequence(value):
    return isinstance(value, (list, tuple))


def is_tuple(value, length):
    return isinstance(value, tuple) and len(value) == length


def are_below(values, limit):
    return all([is_below(value, limit) for value in values])


def first_not_below(values, limit):
    """The index of the first value that is no number below the limit, or None."""
    for at, value in enumerate(values):
        if not is_below(value, limit):
            return at
    return None


def first_no_number(values):
    """The index of the first value that is no number, or None."""
    for at, value in enumerate(values):
        if not is_number(value):
            return at
    return None


def is_ascending(values):
    return all([values[at] < values[at + 1] for at in range(len(values) - 1)])


def tuples_of(things, length):
    """All tuples of so many of these things, in the order of the things."""
    found = [()]
    for _ in range(length):
        found = [row + (thing,) for row in found for thing in things]
    return found


def tuples_below(limit, length):
    """All tuples of so many numbers below the limit, ascending."""
    return tuples_of(list(range(limit)), length)


def subsets(things):
    """All lots of these things, each a tuple in their order."""
    found = [()]
    for thing in things:
        found = found + [some + (thing,) for some in found]
    return found
