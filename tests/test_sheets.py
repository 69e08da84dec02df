"""Point 88: sheets of evidence."""

import itertools
import unittest

from mixlabels.exchanges import is_passage, passage
from mixlabels.following import is_multipliers, multipliers
from mixlabels.forcing import forced, is_forced_evidence
from mixlabels.guides import depth_guide, is_guide
from mixlabels.likenesses import Likenesses
from mixlabels.markings import least_marking, marks_apart
from mixlabels.mending import is_mending, mended
from mixlabels.parting import is_parting, parting_story
from mixlabels.sheets import sheet, sheet_holds, wrong_sheets
from mixlabels.telling import is_told_evidence, told_by_mixture
from tests.faithful import drawn_faithful
from tests.helpers import (
    NO_SEQUENCES, ODD, SIZES, deep_value, error_of, first_table, generator, least_table, most_labels, random_table)
from tests.test_likenesses import drawn_mixture, drawn_told

# For each kind what makes a value, what checks one, and how many things of the question are asked there.
MADE = {
    "parting": (parting_story, is_parting, 3), "mended": (mended, is_mending, 1),
    "forced": (forced, is_forced_evidence, 3), "told": (told_by_mixture, is_told_evidence, 2),
    "guide": (depth_guide, is_guide, 2), "passage": (passage, is_passage, 3),
    "marks": (least_marking, marks_apart, 3), "multipliers": (multipliers, is_multipliers, 3),
}


def questions(k):
    """For each kind questions that are answered."""
    table, first = least_table(k, 3), first_table(k, 2)
    mixture, fine, pure = (1, (k - 1, 1)), (2, (k * k - 1, 1)), (0, (1, 0))
    told, free = Likenesses(k, 2, [(mixture, fine)]), Likenesses(k, 2, [])
    parting = (("least", (k, 0), 1), (1, (1, k - 1)), (3, (1, k ** 3 - 1)))
    return {
        "parting": [(table, (2, 0)) + parting, (table, [2, 0], ["or", ["least", [k, 0], 1]]) + parting[1:]],
        "mended": [(table,), (first,)],
        "forced": [(table, 0, 2), (first, 0, 1), (first, 1, 1)],
        "told": [(table, [2, 1]), (first, (1,)), (first, [])],
        "guide": [(table, [2, 1]), (first, (1,))],
        "passage": [(told, mixture, fine), (told, mixture, mixture)],
        "marks": [(free, mixture, fine), (told, mixture, pure)],
        "multipliers": [(told, fine, mixture), (told, pure, pure)],
    }


def checked(kind, question, value):
    """What the second function named says; None for an error."""
    _, check, many = MADE[kind]
    try:
        return check(*question[:many], value)
    except ValueError:
        return None


def with_changed(value):
    """The value with each of its parts changed, left out or doubled."""
    yield None
    yield (value,)
    yield [value]
    if isinstance(value, int):
        yield value + 1
        yield value - 1
    if isinstance(value, dict):
        for key in value:
            yield {other: value[other] for other in value if other != key}
            for new in with_changed(value[key]):
                yield {**value, key: new}
    if isinstance(value, tuple):
        yield list(value)
        yield value + (0,)
        for at, part in enumerate(value):
            yield value[:at] + value[at + 1:]
            yield value[:at] + (part,) + value[at:]
            for new in with_changed(part):
                yield value[:at] + (new,) + value[at + 1:]


class SheetTest(unittest.TestCase):
    def check_made(self, kind, question):
        made = sheet(kind=kind, question=question)
        self.assertIsInstance(made, tuple)
        self.assertEqual(made[:2], (kind, question))
        self.assertEqual(len(made), 3)
        self.assertIs(checked(kind, question, made[2]), True, (kind, question))
        self.assertIs(sheet_holds(value=made), True, made)
        return made

    def test_each_kind(self):
        for k in SIZES:
            told = questions(k)
            self.assertEqual(list(told), list(MADE))
            for kind, rows in told.items():
                for question in rows:
                    self.check_made(kind, question)

    def test_each_part_changed(self):
        for k in SIZES:
            for kind, rows in questions(k).items():
                held = []
                for question in rows:
                    value = self.check_made(kind, question)[2]
                    for new in itertools.islice(with_changed(value), 0, None, 3):
                        found = sheet_holds((kind, question, new))
                        self.assertIs(found, checked(kind, question, new) is True, (kind, question, new))
                        held.append(found)
                self.assertIn(False, held)

    def test_values_of_any_kind(self):
        for k in SIZES:
            for kind, rows in questions(k).items():
                for value in ODD + (deep_value(3000), (deep_value(3000),) * 2, ((0, 0, 0), (deep_value(3000),))):
                    self.assertIs(sheet_holds((kind, rows[0], value)), False, (kind, value))

    def test_answers_of_other_questions(self):
        # A value holds for another question, and under another kind, just if the function says so.
        for k in SIZES:
            told = questions(k)
            for kind, rows in told.items():
                values = [sheet(other, row)[2] for other in told for row in told[other]]
                for question in rows:
                    for value in values:
                        self.assertIs(sheet_holds((kind, question, value)), checked(kind, question, value) is True)

    def test_drawn(self):
        rnd = generator(1)
        for k in SIZES:
            outcomes = {kind: set() for kind in MADE}
            for _ in range(30):
                for kind in MADE:
                    question = self.drawn(rnd, k, kind)
                    wrong = error_of(MADE[kind][0], *question)
                    self.assertEqual(error_of(sheet, kind, question), wrong, (kind, question))
                    if wrong is None:
                        self.check_made(kind, question)
                    outcomes[kind].add(wrong is None)
            for kind in MADE:
                self.assertIn(True, outcomes[kind], kind)
                self.assertEqual(False in outcomes[kind], kind not in ("mended", "guide"), kind)

    def drawn(self, rnd, k, kind):
        if kind in ("passage", "marks", "multipliers"):
            told = drawn_told(rnd, k, 2, rnd.randrange(3))
            one, other = [drawn_mixture(rnd, k, 2) for _ in range(2)]
            if told.pairs and rnd.random() < 0.6:
                one, other = told.pairs[0]
            return told, one, other
        table = drawn_faithful(rnd, k) if rnd.random() < 0.5 else random_table(rnd, k, rnd.randrange(1, most_labels(k) + 1))
        naming = [rnd.randrange(table.labels) for _ in range(2)]
        label, other = [rnd.choice((rnd.randrange(table.labels), rnd.randrange(table.labels), None)) for _ in range(2)]
        if kind == "parting":
            table, naming = least_table(k, 2), [1, 0]
            one, other = (3, (1, k ** 3 - 1)), (3, (2 * k - 1, k ** 3 - 2 * k + 1))
            question = rnd.choice((("least", (k ** 3, 0), 2), ("has", 0), ("less", 1), None, ["least", [-1, 0], 0]))
            return table, naming, question, one, other
        if kind == "told":
            some = rnd.choice(([label], (label, label), [], None, [0], [other, label]))
            return table, some
        return {"mended": (table,), "forced": (table, label, other), "guide": (table, naming)}[kind]

    def test_errors_of_the_functions(self):
        for k in SIZES:
            told = questions(k)
            table, naming, question, one, other = told["parting"][0]
            free, mixture, fine = told["marks"][0]
            wrong = [
                (("InvalidQuestion", 0), "parting", (table, naming, None, one, other)),
                (("InvalidQuestion", 1), "parting", (table, naming, ("not", ("hat", 1)), one, other)),
                (("Refused", 2), "parting", (table, naming, ("has", 0), one, other)),
                (("InvalidPair", 3), "parting", (table, naming, question, one, (0, (0, 1)))),
                (("Refused", 0), "forced", (table, 3, None)), (("Refused", 1), "forced", (table, 0, True)),
                (("Refused", 1), "told", (table, [0, 3])), (("Refused", 0), "told", (table, None)),
                (("Refused", 0), "passage", (free, mixture, fine)), (("Refused", 0), "marks", (free, fine, fine)),
                (("Refused", 0), "multipliers", (free, mixture, fine)),
            ]
            for error, kind, asked in wrong:
                self.assertEqual(error_of(MADE[kind][0], *asked), error, asked)
                self.assertEqual(error_of(sheet, kind, asked), error, asked)
                for value in (None, (), ("row", ()), ("told", (0, 0, 0)), sheet(kind, told[kind][0])[2]):
                    self.assertIs(sheet_holds((kind, asked, value)), checked(kind, asked, value) is True)
            # Only what the function that checks refuses is no sheet: for these mixtures no story is made.
            value = sheet("parting", told["parting"][0])[2]
            self.assertIs(sheet_holds(("parting", (table, naming, question, one, (0, (0, 1))), value)), True)

    def test_lists_are_copied(self):
        for k in SIZES:
            table, naming, question, one, other = questions(k)["parting"][1]
            names, some, made_of = list(naming), [2, 1], [2, 1]
            asked = ["or", ["least", [k, 0], 1], ("not", ["has", 0])]
            sheets = [
                sheet("parting", (table, names, asked, one, other)), sheet("told", (table, some)),
                sheet("guide", (table, made_of)),
            ]
            names[0] = some[0] = made_of[0] = None
            names.append(7)
            asked[1][1][0] = None
            asked[2][1][1] = None
            asked.append(None)
            wanted = ["or", ["least", [k, 0], 1], ("not", ["has", 0])]
            self.assertEqual(sheets[0][1], (table, [2, 0], wanted, one, other))
            self.assertEqual(sheets[1][1], (table, [2, 1]))
            self.assertEqual(sheets[2][1], (table, [2, 1]))
            self.assertEqual(wrong_sheets(values=sheets), ())


class WrongTest(unittest.TestCase):
    def test_kinds(self):
        for question in (None, (least_table(2, 2),), ()):
            for value in ODD + ("", "Mended", "mended ", "mend", ("mended",), "oracle", deep_value(2000)):
                self.assertEqual(error_of(sheet, value, question), ("Refused", 0), value)
                self.assertIs(sheet_holds((value, question, ((0, 1), ()))), False, value)

    def wrong_questions(self, k):
        table, first = least_table(k, 3), first_table(k, 2)
        told, mixture = Likenesses(k, 2, []), (0, (1, 0))
        for kind, rows in questions(k).items():
            question = rows[0]
            other = table if isinstance(question[0], Likenesses) else told
            for value in ODD + (other, (question[0],), [question[0]], table.results):
                yield kind, (value,) + question[1:]
            yield from [(kind, value) for value in ODD + (list(question), question + (0,), question[1:], question[0], kind)]
            for at in range(len(question)):
                yield kind, question[:at] + question[at + 1:]
        parting, (_, one, fine) = questions(k)["parting"][0], questions(k)["passage"][0]
        for value in NO_SEQUENCES + ((), [], [3], (0, 3), (0, True), [None, 0], (0,) * 13, first):
            yield "parting", (table, value) + parting[2:]
            yield "guide", (table, value)
        deeper = [(1, (k, 0)), (1, (1, 1, k - 2)), [1, (1, k - 1)], (1, [1, k - 1]), (1, (1, k)), (0, (1, 0, 0)), (0, (1,))]
        for value in list(ODD) + deeper + [mixture + (0,), (mixture,)]:
            for row in ((mixture, value), (value, mixture), (value, value)):
                yield "parting", parting[:3] + row
                for kind in ("passage", "marks", "multipliers"):
                    yield kind, (told,) + row
        # A mixture of the naming's ingredients, not of the table's labels.
        yield "parting", (table, [0, 1, 2]) + parting[2:]
        yield "parting", (table, [0]) + parting[2:]

    def test_questions(self):
        for k in SIZES:
            values = {kind: sheet(kind, rows[0])[2] for kind, rows in questions(k).items()}
            for kind, question in self.wrong_questions(k):
                self.assertEqual(error_of(sheet, kind, question), ("Refused", 1), (kind, question))
                self.assertIs(sheet_holds((kind, question, values[kind])), False, (kind, question))

    def test_no_triples(self):
        made = sheet("mended", (least_table(2, 3),))
        for value in ODD + (list(made), made[:2], made + (None,), (made,), ("mended",), [made], deep_value(3000)):
            self.assertIs(sheet_holds(value), False, value)
        self.assertIs(sheet_holds(made), True)

    def test_wrong_sheets(self):
        made = [sheet(kind, rows[0]) for k in SIZES for kind, rows in questions(k).items()]
        self.assertEqual(wrong_sheets(made), ())
        self.assertEqual(wrong_sheets(()), ())
        rows = list(ODD) + made + [None] + made[::-1] + [made[0][:2] + (None,)]
        wanted = tuple(range(len(ODD))) + (len(ODD) + len(made), len(rows) - 1)
        self.assertEqual(wrong_sheets(values=rows), wanted)
        self.assertEqual(wrong_sheets(tuple(rows)), wanted)
        for value in NO_SEQUENCES:
            self.assertEqual(error_of(wrong_sheets, value), ("InvalidQuestion", 0), value)


if __name__ == "__main__":
    unittest.main()
