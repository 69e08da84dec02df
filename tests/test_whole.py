"""What holds for every class and function: points 1 and 2, and the examples of the document."""

import copy
import importlib
import unittest

from mixlabels.alike import faithful_count
from mixlabels.chains import Chain
from mixlabels.combining import mean_table
from mixlabels.desk import Desk
from mixlabels.forms import Form, form_of
from mixlabels.guides import cheapest, depth_guide
from mixlabels.ladders import ladder_table
from mixlabels.likenesses import Likenesses
from mixlabels.oracles import Oracle
from mixlabels.racks import Rack
from mixlabels.tables import Table
from mixlabels.turns import Search
from mixlabels.yard import Yard
from tests.helpers import ODD, SIZES, first_table, least_table
from tests.test_interface import INTERFACE
from tests.test_names import samples

CLASSES = (Table, Oracle, Chain, Search, Form, Likenesses, Rack, Yard, Desk)
# The attributes that the document tells for each class.
ATTRIBUTES = {
    Table: "k labels results", Oracle: "k ingredients modulus answers", Chain: "k modulus depth start goal jumps length",
    Search: "chain low high", Form: "k labels sums joins maps", Likenesses: "k ingredients pairs",
    Rack: "tables sizes labels", Yard: "table naming", Desk: "yard",
}


def calls(k):
    """The name, the function or class and its arguments, for each of the interface."""
    told = samples(k)
    told["forms"][2] = (Form(*told["forms"][0]),)
    for name, words in INTERFACE.items():
        module = importlib.import_module(f"mixlabels.{name}")
        for word, values in zip(words.split(), told[name]):
            yield f"{name}.{word}", getattr(module, word.split("(")[0]), values


def made_objects(k):
    """An object of each class, and what it was made of."""
    return {work: (work(*values), values) for _, work, values in calls(k) if work in CLASSES}


def lists_in(value):
    if isinstance(value, list):
        yield value
    if isinstance(value, (list, tuple)):
        for thing in value:
            yield from lists_in(thing)


def is_tuples_throughout(value):
    """Whether a value is an integer, a text, None, an object of the package, or tuples (and guides) of such."""
    if isinstance(value, tuple):
        return all(is_tuples_throughout(thing) for thing in value)
    if isinstance(value, dict):
        return all(is_tuples_throughout(thing) for pair in value.items() for thing in pair)
    if isinstance(value, CLASSES):
        names = ATTRIBUTES[value.__class__].split()
        return all(is_tuples_throughout(getattr(value, name)) for name in names)
    return value is None or isinstance(value, (bool, int, str))


class Double:
    """It has all attributes of another object, but is none."""

    def __init__(self, thing):
        vars(self).update(vars(thing))


class WholeTest(unittest.TestCase):
    def test_all_classes(self):
        for k in SIZES:
            objects = made_objects(k)
            self.assertEqual(set(objects), set(CLASSES))
            self.assertEqual(set(ATTRIBUTES), set(CLASSES))
            for kind, (thing, _) in objects.items():
                for name in ATTRIBUTES[kind].split():
                    self.assertIn(name, vars(thing), kind)

    def test_no_object_equals_a_value_of_another_kind(self):
        for k in SIZES:
            objects = [thing for thing, _ in made_objects(k).values()]
            objects += [least_table(k, 1), Rack([least_table(k, 1)]), Yard(least_table(k, 1), [0])]
            for thing in objects:
                inner = tuple(vars(thing).values())
                others = [other for other in objects if other.__class__ != thing.__class__]
                for value in list(ODD) + others + [Double(thing), vars(thing), inner, list(inner), repr(thing), thing.__class__]:
                    self.assertIs(thing == value, False, (thing, value))
                    self.assertIs(value == thing, False, (thing, value))
                    self.assertIs(thing != value, True, (thing, value))
                self.assertIs(thing == thing, True)
                self.assertIs(thing != thing, False)

    def test_equal_objects(self):
        for k in SIZES:
            for kind, (thing, values) in made_objects(k).items():
                if kind in (Table, Oracle, Form, Likenesses, Rack):
                    self.assertIs(thing == kind(*values), True, kind)
                    self.assertIs(thing != kind(*values), False, kind)
        table, other = least_table(2, 2), least_table(3, 2)
        self.assertFalse(Rack([table]) == Rack([other]) or table == other or table == first_table(2, 2))

    def test_what_is_told_is_in_tuples(self):
        for k in SIZES:
            for name, work, values in calls(k):
                self.assertTrue(is_tuples_throughout(work(*values)), name)

    def test_arguments_are_not_changed(self):
        for k in SIZES:
            for name, work, values in calls(k):
                before = repr(self.plain(values))
                work(*values)
                self.assertEqual(repr(self.plain(values)), before, name)

    def plain(self, value):
        """What can be compared by its text: objects as their attributes."""
        if isinstance(value, (list, tuple)):
            return value.__class__(self.plain(thing) for thing in value)
        if isinstance(value, dict):
            return {self.plain(key): self.plain(value[key]) for key in value}
        if isinstance(value, CLASSES):
            return value.__class__.__name__, self.plain(vars(value))
        return value

    def test_later_changes_of_passed_lists(self):
        for k in SIZES:
            for name, work, values in calls(k):
                given = copy.deepcopy(values)
                told = work(*given)
                before = repr(self.plain(told))
                for some in list(lists_in(given)):
                    some.append(None)
                    some[0] = some
                    some.clear()
                self.assertEqual(repr(self.plain(told)), before, name)

    def test_what_is_told_can_be_kept(self):
        # Guides are the only things told that can be changed.
        for k in SIZES:
            table, naming = least_table(k, 3), (2, 0)
            for work, values in ((depth_guide, ()), (cheapest, ((5, 7),))):
                told = work(table, naming, *values)
                guide = told if isinstance(told, dict) else told[1]
                guide.clear()
                again = work(table, naming, *values)
                self.assertEqual(sorted(again if isinstance(again, dict) else again[1]), [0, 2])

    def test_examples(self):
        self.assertEqual(form_of(mean_table(2, 3)).sums, (((0, 1, 2), (1, 2, 0), (2, 0, 1)),))
        self.assertEqual((faithful_count(2, 3), faithful_count(2, 4), faithful_count(3, 3)), (10, 92, 18))
        self.assertEqual(ladder_table(2, (1, 0, 2)).results, (0, 1, 1, 1, 1, 1, 1, 1, 2))


if __name__ == "__main__":
    unittest.main()
