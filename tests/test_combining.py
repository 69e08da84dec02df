"""Points 16, 17 and 18: standard tables, combined tables, and their texts."""

import itertools
import math
import unittest

from mixlabels.cases import all_cases, case_of
from mixlabels.closed import closure
from mixlabels.combining import image_table, join_table, mean_table, pair_table, part_table
from mixlabels.faults import fault
from mixlabels.mixtures import mixture_of
from mixlabels.standard import standard_naming, standard_table
from mixlabels.tables import Table
from mixlabels.tasting import label_of
from mixlabels.texts import read_table, table_text
from tests.helpers import (
    NO_SEQUENCES, ODD, SIZES, error_of, first_table, generator, least_table, moduli_of, most_labels, random_recipe,
    random_table,
)

MOST = {2: 12, 3: 9, 4: 5, 5: 3}


class StandardTest(unittest.TestCase):
    def test_labels_stand_for_cases(self):
        rnd = generator(1)
        for k in SIZES:
            for m in range(1, 5):
                for d in range(1, 31):
                    many = ((1 + d) ** m - 1) // d
                    if math.gcd(k, d) != 1:
                        self.assertEqual(error_of(standard_table, k, m, d), ("Refused", 0))
                        self.assertEqual(error_of(standard_naming, k, m, d), ("Refused", 0))
                    elif many > MOST[k]:
                        self.assertEqual(error_of(standard_table, k, m, d), ("Refused", many))
                    else:
                        self.check(rnd, k, m, d)

    def check(self, rnd, k, m, d):
        table = standard_table(k=k, m=m, d=d)
        naming = standard_naming(k=k, m=m, d=d)
        self.assertIsInstance(naming, tuple)
        self.assertIsNone(fault(table))
        cases = all_cases(m, d)
        self.assertEqual((table.k, table.labels), (k, len(cases)))
        for _ in range(60):
            recipe = random_recipe(rnd, k, m, 4)
            wanted = case_of(k, mixture_of(k, m, recipe), d)
            self.assertEqual(cases[label_of(table, naming, recipe)], wanted)

    def test_blends_by_the_words(self):
        for k, m, d in ((2, 2, 3), (2, 3, 1), (3, 2, 5), (4, 2, 3), (5, 2, 1)):
            table = standard_table(k, m, d)
            cases = all_cases(m, d)
            for cups in itertools.product(range(len(cases)), repeat=k):
                some, rests = cases[table.blend(cups)]
                self.assertEqual(set(some), {i for cup in cups for i in cases[cup][0]})
                for i in range(m):
                    self.assertEqual((k * rests[i] - sum(cases[cup][1][i] for cup in cups)) % d, 0)

    def test_naming_of_many_cases(self):
        for k in SIZES:
            for m, d in ((4, 29), (4, 7), (3, 19)):
                cases = all_cases(m, d)
                pure = [(0, tuple(int(i == j) for j in range(m))) for i in range(m)]
                wanted = tuple(cases.index(case_of(k, mixture, d)) for mixture in pure)
                self.assertEqual(standard_naming(k, m, d), wanted)


def joins_of(rnd, n):
    return [[rnd.randrange(n) for _ in range(n)] for _ in range(n)]


def first_wrong_join(joins):
    n = len(joins)
    for a in range(n):
        for b in range(n):
            for c in range(n):
                if joins[a][a] != a or joins[a][b] != joins[b][a] or joins[joins[a][b]][c] != joins[a][joins[b][c]]:
                    return a
    return None


class JoinTest(unittest.TestCase):
    def test_unions_of_sets(self):
        joins = [[a | b for b in range(8)] for a in range(8)]
        for k in (2, 3):
            table = join_table(k=k, joins=joins)
            self.assertIsNone(fault(table))
            for cups in itertools.product(range(8), repeat=k):
                found = 0
                for cup in cups:
                    found |= cup
                self.assertEqual(table.blend(cups), found)
        for k in SIZES:
            n = MOST[k]
            self.assertEqual(join_table(k, tuple(tuple(min(a, b) for b in range(n)) for a in range(n))),
                             least_table(k, n))
            self.assertEqual(join_table(k, [[0]]), Table(k, 1, [0]))

    def test_refused(self):
        rnd = generator(2)
        for k in SIZES:
            for _ in range(200):
                joins = joins_of(rnd, rnd.randrange(1, 4))
                wrong = first_wrong_join(joins)
                self.assertEqual(error_of(join_table, k, joins), None if wrong is None else ("Refused", wrong))
            self.assertEqual(error_of(join_table, k, []), ("InvalidTable", 0))
            self.assertEqual(error_of(join_table, k, joins_of(rnd, MOST[k] + 1)), ("InvalidTable", 0))
        table = [[0, 0, 0], [0, 1, 0], [0, 0, 0]]
        self.assertEqual(error_of(join_table, 2, table), ("Refused", 2))
        table = [[0, 0, 0], [0, 1, 2], [0, 1, 2]]
        self.assertEqual(error_of(join_table, 2, table), ("Refused", 1))


class MeanTest(unittest.TestCase):
    def test_means(self):
        for k in SIZES:
            for n in range(1, 40):
                if math.gcd(n, k) != 1:
                    self.assertEqual(error_of(mean_table, k, n), ("Refused", 0))
                elif n > MOST[k]:
                    self.assertEqual(error_of(mean_table, k, n), ("InvalidTable", 0))
                else:
                    table = mean_table(k=k, n=n)
                    self.assertEqual(table.labels, n)
                    self.assertIsNone(fault(table))
                    for cups in itertools.product(range(n), repeat=k):
                        self.assertEqual((table.blend(cups) * k - sum(cups)) % n, 0)


class PairTest(unittest.TestCase):
    def test_pairs(self):
        rnd = generator(3)
        for k, sizes in ((2, ((3, 4), (1, 12), (2, 5))), (3, ((3, 3), (2, 4))), (4, ((2, 2), (5, 1))), (5, ((1, 3),))):
            for a, b in sizes:
                one, other = random_table(rnd, k, a), random_table(rnd, k, b)
                table = pair_table(one=one, other=other)
                for cups in itertools.product(range(a * b), repeat=k):
                    told = table.blend(cups)
                    self.assertEqual(told // b, one.blend([cup // b for cup in cups]))
                    self.assertEqual(told % b, other.blend([cup % b for cup in cups]))
                self.assertIsNone(fault(pair_table(least_table(k, a), least_table(k, b))))

    def test_labels_of_recipes(self):
        rnd = generator(4)
        one, other = random_table(rnd, 3, 3), random_table(rnd, 3, 2)
        table = pair_table(one, other)
        for _ in range(50):
            recipe = random_recipe(rnd, 3, 2, 3)
            left, right = label_of(one, [0, 2], recipe), label_of(other, [1, 0], recipe)
            self.assertEqual(label_of(table, [1, 4], recipe), left * 2 + right)

    def test_refused(self):
        self.assertEqual(error_of(pair_table, least_table(2, 12), least_table(3, 9)), ("Refused", 0))
        self.assertEqual(error_of(pair_table, least_table(2, 4), least_table(2, 4)), ("InvalidTable", 0))
        self.assertEqual(error_of(pair_table, least_table(5, 2), least_table(5, 2)), ("InvalidTable", 0))


class PartTest(unittest.TestCase):
    def test_parts(self):
        rnd = generator(5)
        for k in SIZES:
            for labels in range(1, MOST[k] + 1):
                table = rnd.choice([random_table(rnd, k, labels), least_table(k, labels)])
                some = [rnd.randrange(labels) for _ in range(2)]
                part = part_table(table=table, some=some)
                old = closure(table, some)
                self.assertEqual(part.labels, len(old))
                for cups in itertools.product(range(len(old)), repeat=k):
                    self.assertEqual(old[part.blend(cups)], table.blend([old[cup] for cup in cups]))

    def test_refused(self):
        table = least_table(3, 4)
        self.assertEqual(error_of(part_table, table, []), ("Refused", 0))
        self.assertEqual(error_of(part_table, table, ()), ("Refused", 0))
        for value in NO_SEQUENCES:
            self.assertEqual(error_of(part_table, table, value), ("InvalidNaming", 0), value)
        for value in ODD + (4,):
            self.assertEqual(error_of(part_table, table, [0, 1, value, None]), ("InvalidNaming", 2), value)
        self.assertEqual(part_table(table, [3, 1, 3, 1] * 9), least_table(3, 2))


class ImageTest(unittest.TestCase):
    def test_images(self):
        for k in SIZES:
            n = MOST[k]
            classes = [min(a, 2) if n > 3 else min(a, 1) for a in range(n)]
            table = image_table(table=least_table(k, n), classes=classes)
            self.assertEqual(table, least_table(k, max(classes) + 1))
            self.assertEqual(image_table(least_table(k, n), tuple(range(n))), least_table(k, n))
            self.assertEqual(image_table(first_table(k, n), [0] * n), Table(k, 1, [0]))
        table = pair_table(least_table(2, 3), mean_table(2, 3))
        self.assertEqual(image_table(table, [a // 3 for a in range(9)]), least_table(2, 3))
        self.assertEqual(image_table(table, [a % 3 for a in range(9)]), mean_table(2, 3))

    def test_against_the_words(self):
        rnd = generator(6)
        for k in (2, 3):
            for _ in range(200):
                table = rnd.choice([random_table, lambda r, k, n: least_table(k, n)])(rnd, k, 3)
                classes = rnd.choice([[0, 0, 1], [0, 1, 0], [1, 0, 0], [0, 1, 1], [2, 0, 1], [0, 0, 0]])
                blends = {}
                for cups in itertools.product(range(3), repeat=k):
                    place = tuple(classes[cup] for cup in cups)
                    blends.setdefault(place, set()).add(classes[table.blend(cups)])
                if any(len(found) > 1 for found in blends.values()):
                    self.assertEqual(error_of(image_table, table, classes), ("Refused", 0))
                else:
                    image = image_table(table, classes)
                    self.assertEqual({place: {image.blend(place)} for place in blends}, blends)
                    self.assertEqual(image.labels, max(classes) + 1)

    def test_later_changes(self):
        classes = [0, 1, 1]
        image = image_table(least_table(2, 3), classes)
        classes[0] = 5
        joins = [[0, 0], [0, 1]]
        joined = join_table(2, joins)
        joins[0][0] = 1
        self.assertEqual(image, joined)


class TextTest(unittest.TestCase):
    def test_back_and_forth(self):
        rnd = generator(7)
        for k in SIZES:
            for labels in range(1, most_labels(k) + 1):
                table = random_table(rnd, k, labels)
                text = table_text(table=table)
                rows = text.split("\n")
                self.assertEqual(rows[0], f"bowl {k} labels {labels}")
                self.assertEqual(len(rows), 1 + labels ** (k - 1))
                self.assertEqual([len(row.split(" ")) for row in rows[1:]], [labels] * (len(rows) - 1))
                self.assertEqual([int(word) for row in rows[1:] for word in row.split(" ")], list(table.results))
                self.assertEqual(read_table(text=text), table)

    def test_example(self):
        text = "bowl 2 labels 2\n0 1\n1 1"
        self.assertEqual(table_text(Table(2, 2, [0, 1, 1, 1])), text)
        self.assertEqual(read_table(text), Table(2, 2, [0, 1, 1, 1]))

    def test_wrong_first_line(self):
        wrong = [
            "", " ", "bowl 2 labels 2 ", " bowl 2 labels 2", "bowl 2  labels 2", "bowl 02 labels 2", "bowl 2 labels 02",
            "bowl 6 labels 2", "bowl 1 labels 2", "bowl 2 labels 0", "bowl 2 labels 13", "bowl 3 labels 10",
            "bowl 5 labels 4", "Bowl 2 labels 2", "bowl 2 label 2", "bowl 2 labels", "bowl +2 labels 2",
            "bowl 2 labels two", "bowl \u0662 labels 2", "bowl 2 labels 2\r", "bowl -2 labels 2", "bowl 2\tlabels 2",
            "bowl 2 labels 2 2",
        ]
        for line in wrong:
            for rest in ("", "\n0 1\n1 1", "\nx"):
                self.assertEqual(error_of(read_table, line + rest), ("InvalidText", 0), line)

    def test_wrong_lines(self):
        for line in ("", "0", "0 0 0", "0  0", " 0 0", "0 0 ", "0 2", "0 01", "0 -1", "0 x", "0,0", "0 0\r", "0 \u0660"):
            self.assertEqual(error_of(read_table, f"bowl 2 labels 2\n0 1\n{line}"), ("InvalidText", 2), line)
            self.assertEqual(error_of(read_table, f"bowl 2 labels 2\n{line}\n{line}"), ("InvalidText", 1), line)
            self.assertEqual(error_of(read_table, f"bowl 2 labels 2\n{line}"), ("InvalidText", 1), line)
            self.assertEqual(error_of(read_table, f"bowl 2 labels 2\n0 1\n0 1\n{line}"), ("InvalidText", 3), line)
        self.assertEqual(error_of(read_table, "bowl 2 labels 2"), ("InvalidText", 1))
        self.assertEqual(error_of(read_table, "bowl 2 labels 2\n0 0"), ("InvalidText", 2))
        self.assertEqual(error_of(read_table, "bowl 2 labels 2\n0 0\n0 0\n"), ("InvalidText", 3))
        self.assertEqual(error_of(read_table, "bowl 2 labels 2\n0 0\n0 0\n0 0\n0 0"), ("InvalidText", 3))

    def test_no_strings(self):
        for value in ODD + (["bowl 2 labels 1", "0"],):
            if not isinstance(value, str):
                self.assertEqual(error_of(read_table, value), ("InvalidText", 0), value)


if __name__ == "__main__":
    unittest.main()
