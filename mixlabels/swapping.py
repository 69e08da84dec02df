"""Steps that exchange parts of a recipe, depth by depth."""

from mixlabels.recipes import part

BLEND = -1


def level_places(recipe, deep):
    """All places of this depth, from left to right."""
    found = [((), recipe)]
    for _ in range(deep):
        found = [
            (place + (at,), here[at])
            for place, here in found if isinstance(here, tuple)
            for at in range(len(here))
        ]
    return [place for place, _ in found]


def mark_at(recipe, place):
    """The ingredient at the place, BLEND for any blend."""
    here = part(recipe, place)
    if isinstance(here, tuple):
        return BLEND
    return here


def level_swaps(recipe, goal, deep):
    """Swaps at this depth, above which both are alike, that bring each ingredient of the goal to its place."""
    places = level_places(goal, deep)
    have = [mark_at(recipe, place) for place in places]
    want = [mark_at(goal, place) for place in places]
    wrong = wrong_places(have, want)
    steps = []
    for at, mark in enumerate(want):
        if mark != BLEND and have[at] != mark:
            other = next_wrong(wrong[mark], have, want)
            steps.append(("swap", places[at], places[other]))
            have[other], have[at] = have[at], mark
            if have[other] != want[other]:
                wrong[have[other]].append(other)
    return steps


def wrong_places(have, want):
    """For each mark a list of the numbers of the places where it stands and should not."""
    wrong = {}
    for at, mark in enumerate(have):
        if mark != want[at]:
            wrong.setdefault(mark, []).append(at)
    return wrong


def next_wrong(numbers, have, want):
    """Takes the last place from the list that is still wrong, and still has the mark for which it is listed."""
    # A place that has been set right since it was listed is never wrong again.
    at = numbers.pop()
    while have[at] == want[at]:
        at = numbers.pop()
    return at


def joining_steps(k, recipe, deep):
    """Swaps and joins after which no k ingredients at this depth are alike."""
    blends = [place for place in level_places(recipe, deep - 1) if mark_at(recipe, place) == BLEND]
    rows = [[mark_at(recipe, place + (at,)) for at in range(k)] for place in blends]
    marks = sorted(set([mark for row in rows for mark in row if mark != BLEND]))
    steps = []
    for ingredient in marks:
        many = sum([row.count(ingredient) for row in rows])
        for _ in range(many // k):
            best = fullest(rows, ingredient)
            steps.extend(gathering_swaps(blends, rows, best, ingredient))
            steps.append(("join", blends[best]))
            rows[best] = []
    return steps


def fullest(rows, ingredient):
    """The number of the first row where the ingredient stands most often."""
    best = 0
    most = 0
    for at, row in enumerate(rows):
        many = row.count(ingredient)
        if many > most:
            best, most = at, many
    return best


def gathering_swaps(blends, rows, best, ingredient):
    """Swaps that make up the best row of the ingredient alone."""
    steps = []
    donor = 0
    many = len(rows[best])
    for at in range(many):
        if rows[best][at] != ingredient:
            while donor == best or ingredient not in rows[donor]:
                donor += 1
            where = rows[donor].index(ingredient)
            steps.append(("swap", blends[best] + (at,), blends[donor] + (where,)))
            rows[donor][where] = rows[best][at]
            rows[best][at] = ingredient
    return steps
