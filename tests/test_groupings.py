"""Points 80 to 84: groupings, mending, what is forced, what a mixture tells, quotients."""

import itertools
import unittest

from mixlabels.combining import image_table, part_table
from mixlabels.faults import fault
from mixlabels.forcing import forced, is_forced_evidence
from mixlabels.groupings import clash, classes_of, grouping_of, is_finer, is_grouping, joined, met
from mixlabels.mending import is_mending, mended, mended_table, mends
from mixlabels.mixtures import mixture_of
from mixlabels.quotients import coarsest, mendings, parted
from mixlabels.recipes import depth, is_recipe, part, placed
from mixlabels.tables import Table
from mixlabels.tasting import label_of
from mixlabels.telling import is_told_evidence, told_by_mixture, told_sets
from tests.faithful import drawn_faithful
from tests.helpers import (
    NO_SEQUENCES, ODD, SIZES, calm_table, deep_value, error_of, first_table, generator, least_table, most_labels, random_recipe,
    random_table,
)


def all_groupings(labels):
    found = [()]
    for _ in range(labels):
        found = [row + (number,) for row in found for number in range(max(row, default=-1) + 2)]
    return found


def drawn_grouping(rnd, labels):
    return numbered([rnd.randrange(rnd.randrange(1, labels + 1)) for _ in range(labels)])


def numbered(things):
    firsts = list(dict.fromkeys(things))
    return tuple(firsts.index(thing) for thing in things)


def together(grouping):
    return {(a, b) for a in range(len(grouping)) for b in range(len(grouping)) if grouping[a] == grouping[b]}


def plain_clash(table, grouping):
    for cups in itertools.product(range(table.labels), repeat=table.k):
        for i in range(table.k):
            for other in range(table.labels):
                if grouping[other] == grouping[cups[i]]:
                    changed = cups[:i] + (other,) + cups[i + 1:]
                    if grouping[table.blend(changed)] != grouping[table.blend(cups)]:
                        return cups, i, other
    return None


def plainly_mends(table, grouping):
    return plain_clash(table, grouping) is None and fault(image_table(table, grouping)) is None


def drawn_table(rnd, k, most=12):
    """Tables that are mended by many kinds of groupings."""
    kind = rnd.randrange(7)
    labels = rnd.randrange(1, min(most, most_labels(k)) + 1)
    if kind == 0:
        return random_table(rnd, k, labels)
    if kind == 1:
        return calm_table(rnd, k, labels)
    table = drawn_faithful(rnd, k)
    if table.labels > most:
        table = least_table(k, labels)
    if kind < 4:
        return table
    results = list(table.results)
    if kind == 4:
        results[rnd.randrange(len(results))] = rnd.randrange(table.labels)
        return Table(k, table.labels, results)
    # Some labels are split in two that are like each other as cups.
    image = [rnd.randrange(table.labels) for _ in range(min(most, most_labels(k)))]
    image[:table.labels] = range(table.labels)
    lots = [[at for at, label in enumerate(image) if label == number] for number in range(table.labels)]
    blends = [table.blend([image[cup] for cup in cups]) for cups in itertools.product(range(len(image)), repeat=k)]
    return Table(k, len(image), [rnd.choice(lots[label]) for label in blends])


def own_label(table, recipe):
    return label_of(table, range_naming(table), recipe)


def range_naming(table):
    return list(range(table.labels))


class PlainTest(unittest.TestCase):
    def pair_is_like(self, table, value):
        one, other = value
        self.assertTrue(is_recipe(table.k, table.labels, one) and is_recipe(table.k, table.labels, other))
        self.assertEqual(mixture_of(table.k, table.labels, one), mixture_of(table.k, table.labels, other))
        return own_label(table, one), own_label(table, other)


class GroupingTest(unittest.TestCase):
    def test_any_grouping(self):
        for labels in range(1, 6):
            wanted = set(all_groupings(labels))
            for value in itertools.product(range(labels + 1), repeat=labels):
                self.assertIs(is_grouping(labels=labels, value=value), value in wanted)
        self.assertIs(is_grouping(12, tuple(range(12))), True)
        self.assertIs(is_grouping(12, (0,) * 12), True)
        for value in ODD + ((0, 0), (0, 1, 2, 2), [0, 0, 0], (0, 2, 1), (1, 0, 0), (0, None, 0), (0, True, 0), (False, 0, 0), (0, 1, 3), (0, -1, 0),
                            (0, 1, 1.0), (0, 1, (0,)), deep_value(30)):
            self.assertIs(is_grouping(3, value), False, value)

    def test_grouping_of(self):
        rnd = generator(1)
        for labels in range(1, 13):
            for _ in range(20):
                pairs = [(rnd.randrange(labels), rnd.randrange(labels)) for _ in range(rnd.randrange(labels + 1))]
                found = grouping_of(labels=labels, pairs=pairs)
                self.assertIs(is_grouping(labels, found), True)
                lots = [{label} for label in range(labels)]
                for a, b in pairs:
                    one, other = [next(lot for lot in lots if label in lot) for label in (a, b)]
                    if one is not other:
                        lots.remove(other)
                        one |= other
                self.assertEqual(together(found), {(a, b) for lot in lots for a in lot for b in lot})
                self.assertEqual(grouping_of(labels, tuple(pairs[::-1])), found)

    def test_orders(self):
        rnd = generator(2)
        rows = [(one, other) for n in range(1, 5) for one in all_groupings(n) for other in all_groupings(n)]
        rows += [(drawn_grouping(rnd, n), drawn_grouping(rnd, n)) for n in range(5, 13) for _ in range(20)]
        for one, other in rows:
            self.assertIs(is_finer(one=one, other=other), together(one) <= together(other))
            self.assertEqual(together(met(one=one, other=other)), together(one) & together(other))
            up = joined(one=one, other=other)
            self.assertTrue(is_grouping(len(one), up) and is_grouping(len(one), met(one, other)))
            if len(one) < 5:
                above = [row for row in all_groupings(len(one)) if together(row) >= together(one) | together(other)]
                self.assertEqual(up, next(row for row in above if all(together(row) <= together(more) for more in above)))
            else:
                self.assertTrue(together(up) >= together(one) | together(other))
            classes = classes_of(grouping=one)
            wanted = tuple(tuple(at for at, n in enumerate(one) if n == number) for number in range(max(one) + 1))
            self.assertEqual(classes, wanted)

    def test_clash(self):
        rnd = generator(3)
        for k in SIZES:
            kinds = set()
            for _ in range(40):
                table = drawn_table(rnd, k)
                grouping = drawn_grouping(rnd, table.labels)
                if rnd.random() < 0.3:
                    grouping = mended(table)[0]
                found = clash(table=table, grouping=grouping)
                self.assertEqual(found, plain_clash(table, grouping))
                kinds.add(found is None)
            self.assertEqual(kinds, {True, False})


class MendingTest(PlainTest):
    def test_finest_of_all(self):
        rnd = generator(4)
        for k in SIZES:
            sizes = set()
            for _ in range(25):
                table = drawn_table(rnd, k, 5)
                every = [row for row in all_groupings(table.labels) if plainly_mends(table, row)]
                grouping, pairs = mended(table=table)
                self.assertIn(grouping, every)
                self.assertTrue(all(together(grouping) <= together(row) for row in every))
                self.check_pairs(table, grouping, pairs)
                self.assertEqual(mendings(table=table), tuple(sorted(every)))
                for row in rnd.sample(every, min(3, len(every))) + [drawn_grouping(rnd, table.labels)]:
                    self.assertIs(mends(table=table, grouping=row), row in every)
                sizes.add(max(grouping) + 1)
                for one, other in itertools.product(every, repeat=2):
                    self.assertIn(joined(one, other), every)
                    self.assertIn(met(one, other), every)
                self.assertEqual(told_sets(table=table), 2 ** (max(grouping) + 1))
            self.assertGreater(len(sizes), 2)

    def check_pairs(self, table, grouping, pairs):
        labels = [self.pair_is_like(table, value) for value in pairs]
        self.assertEqual(len(pairs), table.labels - 1 - max(grouping))
        self.assertEqual(grouping_of(table.labels, labels), grouping)
        self.assertIs(is_mending(table=table, value=(grouping, pairs)), True)

    def test_great_tables(self):
        rnd = generator(5)
        for k in SIZES:
            for _ in range(25):
                table = drawn_table(rnd, k)
                grouping, pairs = mended(table)
                self.assertTrue(plainly_mends(table, grouping))
                self.check_pairs(table, grouping, pairs)
                self.assertEqual(fault(table) is None, grouping == tuple(range(table.labels)))
                self.assertEqual(mended_table(table=table), image_table(table, grouping))
                self.assertIsNone(fault(mended_table(table)))

    def test_a_long_row_of_deep_pairs(self):
        # 0 and 1 are one, and each further label follows from the one before; with twelve labels the last pair is 12 deep.
        for k in SIZES:
            top = most_labels(k) - 1
            results = []
            for cups in itertools.product(range(top + 1), repeat=k):
                results.append(min(cups) + 1 if cups.count(top) == k - 1 else min(cups))
            table = Table(k, top + 1, results)
            grouping, pairs = mended(table)
            self.assertEqual(grouping, (0,) * (top + 1))
            self.check_pairs(table, grouping, pairs)
            self.assertGreaterEqual(max(depth(recipe) for pair in pairs for recipe in pair), top + 1)
            self.assertIs(is_mending(table, (grouping, pairs)), True)
            for one, other in ((0, top), (top, 0), (top - 1, 1)):
                evidence = forced(table, one, other)
                self.assertEqual(evidence[0], "row")
                self.assertIs(is_forced_evidence(table, one, other, evidence), True)
            self.assertIs(is_told_evidence(table, [top], told_by_mixture(table, [top])), True)

    def test_one_label_and_twelve(self):
        for k in SIZES:
            one = Table(k, 1, [0])
            self.assertEqual((mended(one), mendings(one), told_sets(one)), (((0,), ()), ((0,),), 2))
            great = least_table(k, most_labels(k))
            self.assertEqual(mended(great), (tuple(range(great.labels)), ()))
            self.assertEqual(mended_table(great), great)
            self.assertEqual(told_sets(great), 2 ** great.labels)
            self.assertEqual(mended(first_table(k, 4 if k < 5 else 3))[0], (0,) * (4 if k < 5 else 3))
        self.assertEqual(len(mendings(Table(2, 6, least_table(2, 6).results))), 32)
        self.assertEqual(mendings(first_table(3, 6)), ((0,) * 6,))

    def test_any_mending(self):
        table = Table(2, 3, [0, 1, 0, 0, 1, 1, 0, 1, 2])
        grouping, pairs = mended(table)
        self.assertEqual(grouping, (0, 0, 1))
        pair = ((0, 1), (1, 0))
        for value in ((grouping, (pair,)), (grouping, (pair[::-1],)), (grouping, (pair, pair, (2, (2, 2)))), (grouping, (((0, (1, 2)), (0, (2, 1))), pair))):
            self.assertEqual(self.plainly_mending(table, value), is_mending(table, value))
        self.assertIs(is_mending(table, (grouping, (pair,))), True)
        for value in ODD + (
            [grouping, (pair,)], (grouping,), (grouping, (pair,), 0), (list(grouping), (pair,)), (grouping, [pair]), (grouping, (list(pair),)),
            (grouping, ()), ((0, 1, 2), ()), ((0, 0, 0), (pair,)), ((0, 0, True), (pair,)), ((0, 0, 0), (pair, ((0, 2), (0, 2)))), ((0, 1, 1), (pair,)), ((0, 0), (pair,)),
            ((1, 1, 0), (pair,)), (grouping, (pair, (0, 1))), (grouping, (pair, (0,))), (grouping, (pair, (0, 0, 0))), (grouping, (pair, None)),
            (grouping, (pair, (0, (0, 3)))), (grouping, (pair, (0, [0, 0]))), (grouping, (pair, (0, (0, 0, 0)))), (grouping, None), (None, (pair,)),
            (grouping, deep_value(40)), deep_value(60), (grouping, (((0, 1), (True, 0)),)), (grouping, (((0, 1), (1, 1)),)), (grouping, (pair, (1, 0))),
        ):
            self.assertIs(is_mending(table, value), False, value)

    def plainly_mending(self, table, value):
        grouping, pairs = value
        labels = [self.pair_is_like(table, pair) for pair in pairs]
        return plainly_mends(table, grouping) and grouping_of(table.labels, labels) == grouping

    def test_changed(self):
        rnd = generator(6)
        shown = {True: 0, False: 0}
        for _ in range(300):
            table = drawn_table(rnd, rnd.choice(SIZES), 6)
            grouping, pairs = mended(table)
            pairs = list(pairs)
            kind = rnd.randrange(4)
            if kind == 0 and pairs:
                pairs.pop(rnd.randrange(len(pairs)))
            elif kind == 1 and pairs:
                at = rnd.randrange(len(pairs))
                pairs[at] = pairs[at][::-1]
            elif kind == 2:
                grouping = drawn_grouping(rnd, table.labels)
            else:
                cups = tuple(rnd.randrange(table.labels) for _ in range(table.k))
                pairs.insert(0, (cups, cups[::-1]))
            value = grouping, tuple(pairs)
            shows = self.plainly_mending(table, value)
            shown[shows] += 1
            self.assertIs(is_mending(table, value), shows)
        self.assertGreater(min(shown.values()), 30)


class ForcedTest(PlainTest):
    def plainly_forced(self, table, one, other, value):
        word, told = value
        if word == "apart":
            return plainly_mends(table, told) and told[one] != told[other]
        rows = [self.pair_is_like(table, pair) for pair in told]
        steps = [one] + [end for _, end in rows]
        return [start for start, _ in rows] == steps[:-1] and steps[-1] == other

    def test_evidence(self):
        rnd = generator(7)
        for k in SIZES:
            words = set()
            for _ in range(20):
                table = drawn_table(rnd, k)
                grouping = mended(table)[0]
                for _ in range(4):
                    one, other = rnd.randrange(table.labels), rnd.randrange(table.labels)
                    told = forced(table=table, one=one, other=other)
                    words.add(told[0])
                    self.assertEqual(told[0], "row" if grouping[one] == grouping[other] else "apart")
                    self.assertTrue(self.plainly_forced(table, one, other, told))
                    if told[0] == "row":
                        self.assertLess(len(told[1]), table.labels)
                        self.assertEqual(told[1] == (), one == other)
                    self.assertIs(is_forced_evidence(table=table, one=one, other=other, value=told), True)
            self.assertEqual(words, {"row", "apart"})

    def test_changed(self):
        rnd = generator(8)
        shown = {True: 0, False: 0}
        for _ in range(300):
            table = drawn_table(rnd, rnd.choice(SIZES), 6)
            one, other = rnd.randrange(table.labels), rnd.randrange(table.labels)
            word, told = forced(table, one, other)
            kind = rnd.randrange(5)
            if word == "apart":
                told = drawn_grouping(rnd, table.labels) if kind < 4 else told
            elif kind == 0:
                told = told[:-1]
            elif kind == 1:
                told = told + tuple(pair[::-1] for pair in told[::-1]) + told
            elif kind == 2:
                told = told[::-1]
            elif kind == 3:
                told = told + ((other, (other,) * table.k),)
            else:
                one, other = other, one
            shows = self.plainly_forced(table, one, other, (word, told))
            shown[shows] += 1
            self.assertIs(is_forced_evidence(table, one, other, (word, told)), shows)
        self.assertGreater(min(shown.values()), 30)

    def test_any_value(self):
        table = Table(2, 3, [0, 1, 0, 0, 1, 1, 0, 1, 2])
        pair = ((1, 0), (0, 1))
        self.assertIs(is_forced_evidence(table, 0, 1, ("row", (pair,))), True)
        self.assertIs(is_forced_evidence(table, 0, 0, ("row", ())), True)
        self.assertIs(is_forced_evidence(table, 0, 1, ("row", (pair, pair[::-1], pair))), True)
        self.assertIs(is_forced_evidence(table, 0, 2, ("apart", (0, 0, 1))), True)
        for value in ODD + (
            ("row", ()), ("row", (pair[::-1],)), ["row", (pair,)], ("row", [pair]), ("row", (list(pair),)), ("row",), ("row", (pair,), 0),
            ("rows", (pair,)), (None, (pair,)), ("row", (pair, pair)), ("row", None), ("row", ((0, 1),)), ("row", (((1, 0), [0, 1]),)),
            ("row", (((1, 0), (0, 1, 1)),)), ("row", (((1, 0), (0, 3)),)), ("row", ((1, 0),)), ("row", (pair[0],)), ("apart", (0, 1, 2)),
            ("apart", (0, 0, 1)), ("apart", (0, 0, 0)), ("apart", [0, 1, 2]), ("apart", None), ("apart", (0, 1)), ("apart", (1, 0, 2)),
            ("row", deep_value(40)), deep_value(50), ("apart", (0, 1, None)), ("apart", (0, 1, 1)),
        ):
            self.assertIs(is_forced_evidence(table, 0, 1, value), False, value)
        for value in (("apart", (0, 1, 1)), ("apart", (0, 1, 2)), ("row", ())):
            self.assertIs(is_forced_evidence(table, 0, 2, value), False, value)

    def test_errors(self):
        for k in SIZES:
            table = least_table(k, 3)
            for value in ODD + (3, 10 ** 20):
                if value not in (0, 1, 2) or isinstance(value, (bool, float)):
                    for other in (0, None, 3, value):
                        self.assertEqual(error_of(forced, table, value, other), ("Refused", 0), value)
                        self.assertEqual(error_of(is_forced_evidence, table, value, other, None), ("Refused", 0), value)
                    self.assertEqual(error_of(forced, table, 2, value), ("Refused", 1), value)
                    self.assertEqual(error_of(is_forced_evidence, table, 2, value, None), ("Refused", 1), value)


class ToldTest(PlainTest):
    def plainly_told(self, table, some, value):
        word, told = value
        if word == "told":
            return plainly_mends(table, told) and all((a in some) == (b in some) for a, b in together(told))
        one, other = self.pair_is_like(table, told)
        return one in some and other not in some

    def test_evidence(self):
        rnd = generator(9)
        for k in SIZES:
            words = set()
            for _ in range(16):
                table = drawn_table(rnd, k)
                grouping = mended(table)[0]
                for many in (0, 1, table.labels, rnd.randrange(table.labels + 1)):
                    some = rnd.sample(range(table.labels), many)
                    if rnd.random() < 0.4:
                        some = [label for label in range(table.labels) if grouping[label] in {grouping[other] for other in some}]
                    told = told_by_mixture(table=table, some=some)
                    words.add(told[0])
                    whole = all((a in some) == (b in some) for a, b in together(grouping))
                    self.assertEqual(told[0], "told" if whole else "not told")
                    self.assertTrue(self.plainly_told(table, some, told))
                    self.assertIs(is_told_evidence(table=table, some=tuple(some), value=told), True)
            self.assertEqual(words, {"told", "not told"})

    def test_number_of_told_sets(self):
        rnd = generator(10)
        for k in SIZES:
            for _ in range(10):
                table = drawn_table(rnd, k, 6)
                lots = itertools.chain.from_iterable(itertools.combinations(range(table.labels), many) for many in range(table.labels + 1))
                wanted = sum(1 for some in lots if told_by_mixture(table, some)[0] == "told")
                self.assertEqual(told_sets(table), wanted)

    def test_changed(self):
        rnd = generator(11)
        shown = {True: 0, False: 0}
        for _ in range(300):
            table = drawn_table(rnd, rnd.choice(SIZES), 6)
            some = rnd.sample(range(table.labels), rnd.randrange(table.labels + 1))
            word, told = told_by_mixture(table, some)
            kind = rnd.randrange(4)
            if kind == 0:
                some = rnd.sample(range(table.labels), rnd.randrange(table.labels + 1))
            elif kind == 1 and word == "told":
                told = drawn_grouping(rnd, table.labels)
            elif kind == 1:
                told = told[::-1]
            elif kind == 2:
                cups = tuple(rnd.randrange(table.labels) for _ in range(table.k))
                word, told = "not told", (cups, cups[::-1])
            shows = self.plainly_told(table, some, (word, told))
            shown[shows] += 1
            self.assertIs(is_told_evidence(table, some, (word, told)), shows)
        self.assertGreater(min(shown.values()), 30)

    def test_any_value(self):
        table = Table(2, 3, [0, 1, 0, 0, 1, 1, 0, 1, 2])
        pair = ((0, 0), 0)
        good = ("not told", ((1, 0), (0, 1)))
        self.assertIs(is_told_evidence(table, [0], good), True)
        self.assertIs(is_told_evidence(table, [2], ("told", (0, 0, 1))), True)
        self.assertIs(is_told_evidence(table, [0, 1], ("told", (0, 0, 1))), True)
        self.assertIs(is_told_evidence(table, [], ("told", (0, 0, 0))), True)
        self.assertIs(is_told_evidence(table, [2, 0, 1], ("told", (0, 0, 0))), True)
        for value in ODD + (
            list(good), good[:1], good + (0,), ("not told", good[1][::-1]), ("not told", list(good[1])), ("not told", None), ("not told", pair),
            ("nottold", good[1]), (None, good[1]), ("told", good[1]), ("told", (0, 0, 1)), ("told", (0, 1, 2)), ("told", (0, 1, 1)), ("told", None),
            ("not told", ((0, 1), (1, 1))), ("not told", (0, 1)), ("not told", ((0, 1), [1, 0])), ("not told", ((0, 1), (1, 0), 0)),
            ("not told", deep_value(40)), deep_value(40), ("told", [0, 0, 0]), ("not told", ((0, 3), (3, 0))), ("not told", (good[1],)),
        ):
            self.assertIs(is_told_evidence(table, [0], value), False, value)

    def test_errors(self):
        for k in SIZES:
            table = least_table(k, 3)
            for value in NO_SEQUENCES:
                self.assertEqual(error_of(told_by_mixture, table, value), ("Refused", 0), value)
                self.assertEqual(error_of(is_told_evidence, table, value, None), ("Refused", 0), value)
            for value in ODD + (3, 0, 2):
                if value not in (1,) or isinstance(value, (bool, float)):
                    for some in ([0, 2, value, None], (0, 2, value)):
                        self.assertEqual(error_of(told_by_mixture, table, some), ("Refused", 2), value)
                        self.assertEqual(error_of(is_told_evidence, table, some, None), ("Refused", 2), value)

    def test_parts(self):
        # What only some labels are named by is told by the table of the labels that can be made of them.
        table = Table(2, 4, [0, 0, 0, 3, 0, 1, 0, 3, 0, 0, 2, 3, 1, 1, 1, 3])
        self.assertEqual(told_by_mixture(table, [0])[0], "not told")
        self.assertEqual(told_by_mixture(part_table(table, [0, 1, 2]), [0])[0], "told")


class QuotientTest(PlainTest):
    def test_coarsest(self):
        rnd = generator(12)
        for k in SIZES:
            kinds = set()
            for _ in range(25):
                table = drawn_table(rnd, k, 5)
                answers = [rnd.randrange(rnd.choice((1, 2, 3))) for _ in range(table.labels)]
                every = [row for row in all_groupings(table.labels) if plain_clash(table, row) is None]
                every = [row for row in every if together(row) <= together(numbered(answers))]
                found = coarsest(table=table, answers=answers)
                self.assertIn(found, every)
                self.assertTrue(all(together(row) <= together(found) for row in every))
                kinds.add(max(found) - len(set(answers)))
                finest = mended(table)[0]
                sets = [[label for label in range(table.labels) if answers[label] == number] for number in set(answers)]
                told = all(told_by_mixture(table, some)[0] == "told" for some in sets)
                self.assertEqual(is_finer(finest, found), told)
                self.assertEqual(fault(image_table(table, found)) is None, told)
                self.check_parted(rnd, table, answers, found)
            self.assertGreater(len(kinds), 1)

    def check_parted(self, rnd, table, answers, grouping):
        for one, other in itertools.product(range(table.labels), repeat=2):
            if grouping[one] == grouping[other]:
                self.assertEqual(error_of(parted, table, answers, one, other), ("Refused", 0))
            elif rnd.random() < 0.5:
                recipe, place = parted(table=table, answers=tuple(answers), one=one, other=other)
                self.assertTrue(is_recipe(table.k, table.labels, recipe))
                self.assertIsInstance(place, tuple)
                self.assertEqual(part(recipe, place), one)
                changed = placed(recipe, place, other)
                self.assertNotEqual(answers[own_label(table, recipe)], answers[own_label(table, changed)])

    def test_great_tables(self):
        rnd = generator(13)
        for k in SIZES:
            for _ in range(12):
                table = drawn_table(rnd, k)
                answers = [rnd.randrange(2) for _ in range(table.labels)]
                found = coarsest(table, answers)
                self.assertIsNone(plain_clash(table, found))
                self.assertTrue(together(found) <= together(numbered(answers)))
                self.check_parted(rnd, table, answers, found)

    def test_a_long_way(self):
        # Only the last label has another answer, and each label is told from the next one by one blend more.
        for k in SIZES:
            labels = most_labels(k)
            table = Table(k, labels, [min(max(cups) + 1, labels - 1) for cups in itertools.product(range(labels), repeat=k)])
            answers = [0] * (labels - 1) + [10 ** 30]
            self.assertEqual(coarsest(table, answers), tuple(range(labels)))
            if labels > 2:
                recipe, place = parted(table, answers, 0, 1)
                self.assertEqual(part(recipe, place), 0)
                changed = placed(recipe, place, 1)
                self.assertNotEqual(answers[own_label(table, recipe)], answers[own_label(table, changed)])

    def test_no_recipe_for_labels_that_are_not_parted(self):
        rnd = generator(14)
        for k in SIZES:
            for _ in range(20):
                table = drawn_table(rnd, k, 5)
                answers = [rnd.randrange(2) for _ in range(table.labels)]
                grouping = coarsest(table, answers)
                for some in classes_of(grouping):
                    recipe = random_recipe(rnd, k, table.labels, 3)
                    place = ()
                    while isinstance(part(recipe, place), tuple):
                        place += (rnd.randrange(k),)
                    labels = [own_label(table, placed(recipe, place, label)) for label in some]
                    self.assertEqual(len({answers[label] for label in labels}), 1)

    def test_errors(self):
        for k in SIZES:
            table = least_table(k, 3)
            for work, more in ((coarsest, ()), (parted, (0, 1)), (parted, (None, None))):
                for value in NO_SEQUENCES + ([], (), [0, 1], [0] * 4):
                    self.assertEqual(error_of(work, table, value, *more), ("InvalidQuestion", 3), value)
                for value in ODD:
                    if value != 10 ** 30:
                        self.assertEqual(error_of(work, table, [0, value, None], *more), ("InvalidQuestion", 1), value)
                        self.assertEqual(error_of(work, table, [0, 1, 2, value], *more), ("InvalidQuestion", 3), value)
            for value in ODD + (3, 10 ** 20):
                if value not in (0, 1, 2) or isinstance(value, (bool, float)):
                    self.assertEqual(error_of(parted, table, [0, 1, 2], value, 1), ("Refused", 0), value)
                    self.assertEqual(error_of(parted, table, [0, 1, 2], 1, value), ("Refused", 0), value)
            self.assertEqual(error_of(parted, table, [0, 1, 2], 1, 1), ("Refused", 0))


if __name__ == "__main__":
    unittest.main()
