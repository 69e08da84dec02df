"""Arguments can be passed by their names, in any order; points 1 and 5 to 90."""

import importlib
import math
import unittest

from mixlabels.chains import Chain
from mixlabels.desk import Desk
from mixlabels.forms import Form
from mixlabels.likenesses import Likenesses
from mixlabels.oracles import Oracle
from mixlabels.racks import Rack
from mixlabels.tables import Table
from mixlabels.turns import Search
from mixlabels.yard import Yard
from tests.helpers import SIZES, first_table, least_table
from tests.test_interface import INTERFACE, METHODS, words_of


def samples(k):
    """For each function and class its arguments, from left to right."""
    table, naming, pure = least_table(k, 3), (2, 0), (0,) * (k - 1)
    blend, other = (0,) * (k - 1) + (1,), (1,) + (0,) * (k - 1)
    mixture = (1, (k - 1, 1))
    fine, case = (2, (k * k - 1, 1)), ((0, 1), (0, 0))
    oracle = Oracle(k, 2, 1, [1, 0, 0])
    question = ("or", ("has", 1), ("rest", k + 1, (1, 0), 1))
    weights, plan = (2, 0), ((blend,), 2)
    chain = Chain(k, 1, 2, mixture, fine)
    rows = ((0,) * k,) * (k - 1) + ((1,) * k,)
    throw = ((0,) * k, (1, k))
    trade = ((throw,), 2, (throw,), (throw,))
    pure_worth = ((15, 1), (), ((3, 1), None, None))
    told, free = Likenesses(k, 2, [(mixture, fine)]), Likenesses(k, 2, [])
    small = Likenesses(k, 2, [((0, (1, 0)), (0, (0, 1)))])
    size = 2 if k % 2 else 3
    rack, first = Rack([least_table(k, 3), least_table(size, 3)]), first_table(k, 2)
    marking = ((0, 1), next(d for d in (2, 3, 4, 5) if math.gcd(d, k) == 1 and (k - 1) % d), (0, 1))
    return {
        "ratios": [((1, 2),), (2, 4), ((1, 2), (1, 3)), ((1, 2), (1, 3)), ((1, 2), (1, 3)), ((1, 2), (1, 3))],
        "recipes": [(k,), (k,), (k, 2, blend), (k, 2, blend), (blend,), (blend,), (blend, (k - 1,)), (blend, (0,), 1)],
        "mixtures": [
            (k, 2, mixture), (k, 1, (k - 1, 1)), (k, 2, blend), (k, [mixture] * k), (mixture,), (k, mixture, 1),
            (k, mixture, 2), (k, k + 1), (k, mixture, k + 1),
        ],
        "leaves": [
            (blend,), (k, [(1, 0)] * k), (k, [(1, 0)] * (k - 1) + [(1, 1)]), (k, mixture), (k, mixture), (k, mixture, 1),
            (k, blend, 2),
        ],
        "steps": [
            (k, blend, [("swap", (0,), (k - 1,))]), (blend, other), (k, blend, other),
            (k, (blend,) + pure, (0, 0), (0, k - 1)),
        ],
        "recipetexts": [(blend,), (k, 2, "(" + " ".join("0" * k) + ")")],
        "tables": [(k, 2, [1] * 2 ** k)],
        "tasting": [(table, naming, blend), (table, naming, blend)],
        "faults": [
            (table,), (table, ("same", 0)), (rows,), (least_table(k, 2), naming[1:] * 2),
            (Table(k, 2, [0] * 2 ** (k - 1) + [1] * 2 ** (k - 1)), (0, 1), (blend, other)),
        ],
        "standard": [(k, 1, 7 if k < 3 else 1), (k, 2, k + 1)],
        "combining": [
            (k, [[0, 0], [0, 1]]), (k, 3 if k % 3 else 2), (least_table(k, 1), table), (table, [2, 1]), (table, [0, 1, 1]),
        ],
        "texts": [(table,), (f"bowl {k} labels 1\n" + "0",)],
        "cases": [(2, 1, case), (2, k + 1), (k, mixture, k + 1), (k, 1, [case] * k)],
        "fillings": [(k, 1, case, 3), (k, 1, case, 3, 2), (k, 1, case), (k, mixture, 1, case, 4)],
        "oracles": [(k, 2, 1, [5, 6, 7]), (oracle, Oracle(k, 2, 1, [0, 1, 2]))],
        "moduli": [(oracle,), (oracle,), (oracle, k + 1), (oracle,), (oracle, Oracle(k, 2, 1, [1, 0, 0]))],
        "chains": [(k, 1, 2, mixture, fine)],
        "turns": [(chain, 0, chain.length), (k, 1, case, weights, (1, 3)), (k, 2, weights, (1, 3))],
        "plans": [
            (k, 2, plan), (k, 2, plan), (k, 2, plan), (k, 2, plan), (k, 2, blend), (table, naming, plan),
            (table, naming, plan),
        ],
        "lines": [(table, naming, 1, 0), (table, naming, 0, 1, 5), (k, 2, 1, 0, 3), (table, naming), (table, naming), (k, 2)],
        "stories": [
            (table, naming, (1, (1, k - 1)), (1, (1, k - 1))), (table, naming, (plan, plan)),
            (table, naming, (3, (1, k ** 3 - 1)), (3, (1 + k * (k - 1), k ** 3 - 1 - k * (k - 1))), 0),
        ],
        "questions": [(k, question, mixture), (k, 2, question), (k, 2, ("least", (1, 0), 1)), (k, 2, question)],
        "closed": [(table, (0, 2)), (table, [2, 1]), (table,), (table, (0, 1, 2))],
        "parting": [
            (table, naming, question, (plan, ((other,), 2))),
            (table, naming, ("least", (k, 0), 1), (1, (1, k - 1)), (3, (1, k ** 3 - 1))), (table, naming, ("least", (2, 0), 1)),
            (table, naming, 1, 0),
        ],
        "knots": [(table, naming, blend), (table, naming, blend, (), (k - 1,), 3), (table, naming, blend)],
        "wheels": [(table, 1), (table,), (table, 2), (table, 1, 1, 1), (table, 2, 2, -7), (table, 1), (table,)],
        "lifting": [(table,), (table, 2, 1), (table, naming, mixture), (table, naming, case)],
        "forms": [
            (k, [[[0]], [[0]]], [[0, 1], [1, 1]], [[[0], [0]], [None, [0]]]), (table,), None, (table, [2, 0, 1]),
        ],
        "alike": [(table, least_table(k, 3)), (table,), (k, 2), (k, 3)],
        "patterns": [(k, [(weights, 1)], mixture), (k, [(weights, 1)], 1, case)],
        "deciding": [(k, 2, question)] * 4 + [(k, 2, question, 1), (k, 2, question, 1), (k, 2, question, ("has", 1))],
        "trails": [(oracle, (pure,)), (oracle, case, (pure,)), (oracle, ((0,), (0, 0)), case)],
        "least": [(oracle,)] * 4 + [(oracle, mixture)],
        "lower": [(oracle,), (oracle, 2, ((0, 1), ((),)))],
        "readings": [(oracle, table, naming), (oracle, table, naming, (((), 0), ((), 1)))],
        "leastforms": [(oracle, (1,)), (oracle, (0, 1)), (oracle,)],
        "leastsizes": [(k, (1, 0), k + 1, 1), ((1, 0), k + 1, 1), (k, 3, (0, 2), 1), (3, (0, 2), 1)],
        "rising": [(table,), (table, ((0,) * k, 0))],
        "ladders": [((1, 0, 2), 0, 2), (k, (1, 0, 2))],
        "outlines": [((1, 2, 0),), (table,), ((1, 0, 2),), (4,), (4, 7), ((1, 0, 2),)],
        "wishes": [
            (3, [(0, 2, 1, 2)]), (3, [(0, 2, 1, 2)], 1), (4, [(0, 2, 1, 2)], 1, 3), (3, [(0, 2, 1, 2)]),
            (3, [(0, 2, 1, 2)], ("outline", (1, 0, 2))),
        ],
        "climbing": [
            ((1, 0, 2), (0, 1, 2)), ((1, 0, 2),), ((0, 1, 0),), ((1, 0, 2), (0, 2, 1)), ((1, 0, 2), (0, 2, 1)), ((0, 1, 2),),
            ((2, 1, 0),), ((0, 1, 2), (2, 1, 0)),
        ],
        "rankings": [(table,), (table,), (table, ("ranking", (0, 1, 2)))],
        "prices": [(table, [3, 2, 1])] * 4 + [(table, 1, 2)],
        "costs": [(table, [3, 2, 1]), (table, [3, 3, 3], (((3, 1),) * 3, (None,) * 3)), (table, [3, 2, 1], 2)],
        "trades": [(table, [5, 6, 7], trade), (table, [5, 6, 7], trade)],
        "worth": [
            (table, [5, 6, 7], [3, 2, 1]), (table, [5, 0, 0], [3, 2, 1], ((15, 1), (), ((3, 1), None, None))),
            (table, [5, 6, 7], [3, 2, 1], (1, 9)),
        ],
        "reach": [(table, [5, 6, 7], [3, 2, 1]), (table, [5, 0, 0], [3, 2, 1], ("reached", pure_worth, ((), 0, (), ())))],
        "likenesses": [
            (k, 2, [(mixture, fine)]), (table, naming, mixture), (told, table, naming), (told,), (told, mixture),
        ],
        "following": [(told, mixture, fine), (told, mixture, fine), (told, mixture, fine, (0, (1,)))],
        "exchanges": [
            (told, mixture, (0, 0, 1, 1)), (told, mixture, fine), (told, mixture, fine, ((), 1, (), ((0, 0, 0, 1),))),
        ],
        "markings": [
            (k, 2, marking), (k, marking, mixture), (k, 1, ((0,), 1, (0,))), (free, mixture, fine, marking), (free, mixture, fine),
        ],
        "finest": [(told, (0, 1)), (told,), (small,), (told, mixture), (told,)],
        "hints": [(k, 2, [(blend, 1)]), (told, blend), (told,)],
        "guides": [
            (table, naming, {0: 1, 2: 0}), ({0: 1, 2: (0,) * k}, 2), (table, naming), (table, naming),
            (table, naming, [5, 7], 3), (table, naming, [5, 7], 3, (7, None, 5)),
        ],
        "fullness": [(table, naming, 2), (table, naming), (table, naming, 2), (table, naming, 2, 7), (table, naming, 2)],
        "ranks": [(table, naming, 1, 0, 2), (table, naming, blend), (table, naming, mixture)],
        "racks": [([table],), ((k,), 1, k + 1 if k != 5 else 2)],
        "mixed": [
            ((k,), 2, blend), (2, blend), ((k,), ((1, k), (k - 1, k))), ((k,), ((1, k), (k - 1, k))),
            (((1, k), (k - 1, k)), k + 1), ((k,), ((1, k), (k - 1, k)), ((1, k * k), (k * k - 1, k * k))),
        ],
        "across": [
            (rack, naming, (0, (1,) * k) + (0,) * (size - 2)), (rack,), (rack, (1, ("same", 0))), (rack, naming, ((1, 2 * k), (2 * k - 1, 2 * k))),
        ],
        "othersizes": [(least_table(k, 3), 7 - k), (table,)],
        "bowlstories": [(rack, naming, k, size), (rack, naming, k, ((0, 1), (0, 1)))],
        "wear": [
            (first,), (first, ("order", other, 0)), (k, [[0, 1, 2], [1, 2, 0], [2, 0, 1]], [0, 2, 1]), (2, blend, (0, blend)),
        ],
        "groupings": [
            (3, (0, 1, 0)), (3, [(0, 2)]), ((0, 1, 2), (0, 1, 0)), ((0, 1, 2), (0, 1, 0)), ((0, 1, 1), (0, 1, 0)), ((0, 1, 0),),
            (table, (0, 1, 0)),
        ],
        "mending": [(table, (0, 1, 1)), (first,), (first, ((0, 0), ((blend, other),))), (first,)],
        "forcing": [(first, 0, 1), (table, 0, 2, ("apart", (0, 1, 2)))],
        "telling": [(first, [0]), (table, [0], ("told", (0, 1, 2))), (table,)],
        "quotients": [(table, (5, 5, 0)), (table, (5, 5, 0), 1, 2), (table,)],
        "yard": [(table, naming)],
        "sheets": [(("mended", (first,), ((0, 0), ((blend, other),))),), ("forced", (first, 0, 1)), ([None],)],
        "desk": [()],
    }


def shown(value):
    """What can be compared: an object's attributes, or the value itself."""
    if isinstance(value, (Chain, Search, Yard, Desk)):
        return {name: shown(inner) for name, inner in vars(value).items()}
    return value


class NameTest(unittest.TestCase):
    def test_functions_and_classes(self):
        for k in SIZES:
            told = samples(k)
            told["forms"][2] = (Form(*told["forms"][0]),)
            self.assertEqual(sorted(told), sorted(INTERFACE))
            for name, words in INTERFACE.items():
                module = importlib.import_module(f"mixlabels.{name}")
                words = words.split()
                self.assertEqual(len(words), len(told[name]), name)
                for word, values in zip(words, told[name]):
                    called, names = word[:-1].split("(")
                    self.check(getattr(module, called), words_of(names), values)

    def check(self, work, names, values):
        self.assertEqual(len(names), len(values), work)
        plain = shown(work(*values))
        pairs = list(zip(names, values))
        for row in (pairs, pairs[::-1], pairs[1:] + pairs[:1]):
            self.assertEqual(shown(work(**dict(row))), plain, work)
        for many in range(1, len(values)):
            rest = dict(reversed(pairs[many:]))
            self.assertEqual(shown(work(*values[:many], **rest)), plain, work)

    def test_methods(self):
        for k in SIZES:
            told = method_samples(k)
            self.assertEqual(sorted(told), sorted(f"{kind.__name__}.{name}" for kind, name, _ in listed_methods()))
            for kind, name, names in listed_methods():
                for values in told[f"{kind.__name__}.{name}"]:
                    # Yards and desks change, so that each call needs a new one.
                    def work(*given, **named):
                        thing = made(k, kind)
                        return shown(getattr(thing, name)(*given, **named)), shown(thing)

                    self.check(work, names, values)


def listed_methods():
    for kind, methods in METHODS.items():
        for word in methods.split():
            name, rest = word[:-1].split("(")
            if not name.startswith("__"):
                yield kind, name, words_of(rest)


def made(k, kind):
    """An object of a class, always the same."""
    table = least_table(k, 3)
    chain = Chain(k, 1, 4, (1, (1, k - 1)), (4, (1, k ** 4 - 1)))
    if kind is Yard:
        yard = Yard(table, [2, 1])
        for i in (0, 1) * k:
            yard.bring(i)
        yard.blend(list(range(k)))
        return yard
    if kind is Desk:
        desk = Desk()
        desk.say(f"table {k} 1 0")
        return desk
    return {Table: table, Rack: Rack([table]), Oracle: Oracle(k, 2, 1, [4, 5, 6]), Chain: chain, Search: Search(chain, 0, 4)}[kind]


def method_samples(k):
    vats = list(range(k, 2 * k))
    return {
        "Table.blend": [((1,) * k,)], "Rack.blend": [([1] + [2] * (k - 1),)], "Oracle.case_answer": [(((0, 1), (0, 0)),)],
        "Oracle.mixture_answer": [((1, (1, k - 1)),)], "Chain.mixture_after": [(1,)], "Chain.jump_at": [(0,)],
        "Search.halved": [(True,), (False,)], "Yard.vats": [()], "Yard.bring": [(1,)], "Yard.blend": [(vats,)],
        "Yard.pour": [(k,)], "Yard.label": [(2 * k,)], "Yard.mixture": [(2 * k,)], "Yard.recipe": [(2 * k,)], "Yard.stock": [()],
        "Yard.relabel": [(first_table(k, 2), [1, 0])], "Yard.groups": [()], "Yard.unlike": [()], "Yard.undo": [()],
        "Yard.within": [(first_vat,)], "Desk.say": [("bring 0",)],
    }


def first_vat(yard):
    yard.bring(0)
    return yard.vats()[0]


if __name__ == "__main__":
    unittest.main()
