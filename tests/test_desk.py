"""Points 89 and 90: desks."""

import unittest

from mixlabels.desk import Desk
from mixlabels.errors import InvalidCommand
from mixlabels.faults import fault
from mixlabels.tables import Table
from mixlabels.yard import Yard
from tests.faithful import drawn_faithful
from tests.helpers import ODD, SIZES, deep_value, error_of, first_table, generator, least_table, most_labels, random_table

NO_COMMAND = ("InvalidCommand", None)


def table_command(table):
    return "table " + " ".join(str(number) for number in (table.k, table.labels) + table.results)


def shown(desk):
    """All that a desk has to tell."""
    yard = desk.yard
    if yard is None:
        return None
    vats = yard.vats()
    return (yard.table, yard.naming, vats, len(yard), [yard.recipe(vat) for vat in vats], [yard.label(vat) for vat in vats],
            yard.stock())


class DeskTest(unittest.TestCase):
    def test_each_command(self):
        desk = Desk()
        self.assertIsNone(desk.yard)
        said = [
            ("table 2 3 0 2 1 2 1 0 1 0 2", "ok"), ("vats", "none"), ("undo", "nothing"), ("faithful", "yes"),
            ("bring 0", "0"), ("bring 1", "1"), ("bring 2", "2"), ("label 1", "1"), ("mixture 1", "0 1 0 of 1"),
            ("vats", "0:0 1:1 2:2"), ("blend 1 0", "3 4"), ("vats", "2:2 3:2 4:2"), ("mixture 3", "1 1 0 of 2"),
            ("label 4", "2"), ("blend 2 4", "5 6"), ("mixture 6", "1 1 2 of 4"), ("label 6", "2"), ("vats", "3:2 5:2 6:2"),
            ("pour 5", "ok"), ("vats", "3:2 6:2"), ("undo", "ok"), ("vats", "3:2 5:2 6:2"), ("undo", "ok"),
            ("vats", "2:2 3:2 4:2"), ("bring 1", "5"), ("pour 2", "ok"), ("pour 3", "ok"), ("pour 4", "ok"), ("pour 5", "ok"),
            ("vats", "none"), ("table 3 2 0 0 0 0 0 0 0 1", "ok"), ("vats", "none"), ("undo", "nothing"), ("faithful", "yes"),
            ("bring 1", "0"), ("bring 1", "1"), ("bring 0", "2"), ("blend 2 0 1", "3 4 5"), ("label 3", "0"),
            ("mixture 5", "1 2 of 3"), ("blend 5 3 4", "6 7 8"), ("mixture 8", "1 2 of 3"), ("undo", "ok"), ("undo", "ok"),
            ("undo", "ok"), ("undo", "ok"), ("vats", "0:1"), ("undo", "ok"), ("vats", "none"), ("undo", "nothing"),
            ("table 2 1 0", "ok"), ("bring 0", "0"), ("mixture 0", "1 of 1"), ("faithful", "yes"),
            ("table 2 2 0 0 1 1", "ok"), ("faithful", "no"),
        ]
        for command, text in said:
            self.assertEqual(desk.say(command=command), text, command)

    def test_tables(self):
        rnd = generator(1)
        for k in SIZES:
            for labels in range(1, most_labels(k) + 1):
                desk = Desk()
                for table in (random_table(rnd, k, labels), least_table(k, labels), first_table(k, labels), drawn_faithful(rnd, k)):
                    before = desk.yard
                    self.assertEqual(desk.say(table_command(table)), "ok")
                    self.assertIsInstance(desk.yard, Yard)
                    self.assertIsNot(desk.yard, before)
                    self.assertEqual(shown(desk)[:4], (table, tuple(range(table.labels)), (), 0))
                    self.assertEqual(desk.say("faithful"), "yes" if fault(table) is None else "no")
                    self.assertEqual(desk.say("bring 0"), "0")

    def test_beside_a_yard(self):
        rnd = generator(2)
        for k in SIZES:
            for _ in range(4):
                table = random_table(rnd, k, rnd.randrange(1, most_labels(k) + 1))
                desk, yard = Desk(), Yard(table, list(range(table.labels)))
                desk.say(table_command(table))
                for _ in range(60):
                    self.check_one(rnd, desk, yard)
                vats = yard.vats()
                self.assertEqual(desk.say("vats"), " ".join(f"{vat}:{yard.label(vat)}" for vat in vats) or "none")
                self.assertEqual((desk.yard.stock(), len(desk.yard)), (yard.stock(), len(yard)))

    def check_one(self, rnd, desk, yard):
        vats = yard.vats()
        kind = rnd.randrange(8)
        if kind < 3 or len(vats) < yard.table.k:
            ingredient = rnd.randrange(yard.table.labels)
            self.assertEqual(desk.say(f"bring {ingredient}"), str(yard.bring(ingredient)))
            return
        cups = rnd.sample(vats, yard.table.k)
        if kind < 6:
            words = " ".join(str(cup) for cup in cups)
            self.assertEqual(desk.say(f"blend {words}"), " ".join(str(vat) for vat in yard.blend(cups)))
        elif kind < 7:
            yard.pour(cups[0])
            self.assertEqual(desk.say(f"pour {cups[0]}"), "ok")
        else:
            self.assertEqual(desk.say("undo"), "ok" if yard.undo() else "nothing")
        for vat in yard.vats()[-2:]:
            self.assertEqual(desk.say(f"label {vat}"), str(yard.label(vat)))
            n, counts = yard.mixture(vat)
            words = " ".join(str(count) for count in counts)
            self.assertEqual(desk.say(f"mixture {vat}"), f"{words} of {yard.table.k ** n}")

    def test_deeds_done_beside(self):
        desk = Desk()
        desk.say("table 2 2 0 0 0 1")
        desk.yard.bring(1)
        desk.yard.relabel(Table(2, 2, [1, 1, 1, 0]), [1, 0])
        self.assertEqual(desk.say("vats"), "0:0")
        self.assertEqual(desk.say("faithful"), "no")
        self.assertEqual(desk.say("undo"), "ok")
        self.assertEqual(desk.say("vats"), "0:1")

    def test_great_numbers(self):
        desk = Desk()
        desk.say("table 2 1 0")
        for at in range(1001):
            self.assertEqual(desk.say("bring 0"), str(at))
        self.assertEqual(desk.say("blend 1000 999"), "1001 1002")
        self.assertEqual(desk.say("label 1002"), "0")
        self.assertEqual(error_of(desk.say, "label 9999"), ("Refused", 0))
        self.assertEqual(error_of(desk.say, "label 10000"), NO_COMMAND)


class WrongCommandTest(unittest.TestCase):
    def ready(self):
        desk = Desk()
        for command in ("table 2 3 0 0 0 0 1 1 0 1 2", "bring 0", "bring 1", "bring 2", "blend 0 1", "bring 2"):
            desk.say(command)
        return desk

    def test_no_commands(self):
        texts = [
            "", " ", "  ", "\n", "Vats", "VATS", "vat", "vatss", "table", "table ", "table 2", "table 2 1", "table 2 1 ", "bring",
            "bring ", "blend", "pour", "label", "mixture", "0", "bring0", "vats vats", "undo 1", "vats 0", "faithful 1",
            "vats undo", "relabel 2 1 0", "stock", "groups", "unlike", "recipe 2", "within", "none", "ok",
        ]
        fine = ["bring 2", "blend 2 3", "pour 3", "label 3", "mixture 4", "vats", "faithful", "undo", "table 2 1 0"]
        for command in fine:
            word, _, rest = command.partition(" ")
            texts += [f" {command}", f"{command} ", f"{command}\n", f"\n{command}", f"{command}\t", f"{command}\r", f"{command}  0"]
            texts += [command.replace(" ", "  ", 1) + " " * (" " not in command), command.upper(), f"{command} x", f"{command}\n0"]
            if rest:
                texts += [word, f"{word} 0{rest}", f"{word} +{rest}", f"{word} -{rest}", f"{word} {rest}.0", f"{word}\n{rest}"]
                texts += [f"{word}  {rest}", f"{word}\t{rest}", f"{word} {rest} 00", f"{word} {rest} 10000", f"{word} {rest} 01"]
                texts += [f"{word} 00003", f"{word} 10000", f"{word} 1_0", f"{word} \u0663", f"{word} 1e1", f"{word} 0x1", f"{word} -0"]
                texts += [f"{word} \u00b2", f"{word} " + "9" * 5000]
            if rest and word not in ("blend", "table"):
                texts.append(f"{command} 0")
            if not rest:
                texts += [f"{command} 0", f"{command} {command}"]
        desk, empty = self.ready(), Desk()
        before = shown(desk)
        for text in texts:
            self.assertEqual(error_of(desk.say, text), NO_COMMAND, repr(text))
            self.assertEqual(error_of(empty.say, text), NO_COMMAND, repr(text))
        for command in fine:
            self.assertIsNone(error_of(self.ready().say, command), command)
        self.assertEqual(shown(desk), before)
        self.assertIsNone(empty.yard)

    def test_values_of_any_kind(self):
        desk, empty = self.ready(), Desk()
        before = shown(desk)
        for value in ODD + (["vats"], ("vats",), b"vats", {"vats": 0}, deep_value(3000)):
            self.assertEqual(error_of(desk.say, value), NO_COMMAND, value)
            self.assertEqual(error_of(empty.say, value), NO_COMMAND, value)
        self.assertEqual(shown(desk), before)

    def test_ahead_of_the_first_table(self):
        desk = Desk()
        for command in ("bring 0", "blend 0 1", "pour 0", "label 0", "mixture 0", "vats", "faithful", "undo"):
            self.assertEqual(error_of(desk.say, command), NO_COMMAND, command)
            with self.assertRaises(InvalidCommand):
                desk.say(command)
            self.assertIsNone(desk.yard)
        self.assertEqual(error_of(desk.say, "table 1 1 0"), ("InvalidBowl", 0))
        self.assertEqual(error_of(desk.say, "vats"), NO_COMMAND)
        self.assertIsNone(desk.yard)

    def test_errors_of_the_functions(self):
        desk = self.ready()
        before, yard = shown(desk), desk.yard
        self.assertEqual(desk.say("vats"), "2:2 3:0 4:0 5:2")
        wrong = [
            ("bring 3", ("Refused", 0)), ("bring 9999", ("Refused", 0)), ("pour 0", ("Refused", 0)), ("label 6", ("Refused", 0)),
            ("mixture 1", ("Refused", 0)), ("blend 2", ("Refused", 2)), ("blend 2 3 4", ("Refused", 2)), ("blend 0", ("Refused", 2)),
            ("blend 0 2", ("Refused", 0)), ("blend 2 0", ("Refused", 1)), ("blend 3 3", ("Refused", 1)),
            ("blend 7 7", ("Refused", 0)), ("table 1 2 0 0", ("InvalidBowl", 0)), ("table 6 1 0", ("InvalidBowl", 0)),
            ("table 0 0 0", ("InvalidBowl", 0)), ("table 9999 1 0", ("InvalidBowl", 0)), ("table 2 0 0", ("InvalidTable", 0)),
            ("table 2 13 0", ("InvalidTable", 0)), ("table 3 10 0", ("InvalidTable", 0)), ("table 5 4 0", ("InvalidTable", 0)),
            ("table 2 2 0 0 0", ("InvalidTable", 4)), ("table 2 2 0 0 0 0 0", ("InvalidTable", 4)),
            ("table 2 2 0 2 0 0", ("InvalidTable", 1)), ("table 2 2 0 0 0 0 2", ("InvalidTable", 4)),
            ("table 2 2 5", ("InvalidTable", 0)),
        ]
        for command, error in wrong:
            self.assertEqual(error_of(desk.say, command), error, command)
            self.assertIs(desk.yard, yard)
            self.assertEqual(shown(desk), before, command)
        self.assertEqual(desk.say("bring 0"), "6")

    def test_other_values(self):
        desk = Desk()
        for value in ODD + (Desk(), desk.yard, "vats"):
            self.assertFalse(desk == value)
            self.assertTrue(desk != value)


if __name__ == "__main__":
    unittest.main()
