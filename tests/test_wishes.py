"""Point 53: ladders that keep wishes."""

import math
import unittest

from mixlabels.ladders import leader
from mixlabels.outlines import nth_outline, outline_count
from mixlabels.wishes import is_wish_evidence, leaders, nth_wished, wish_evidence, wished_count
from tests.helpers import NO_SEQUENCES, ODD, deep_value, error_of, generator
from tests.test_ladders import all_outlines, drawn_outline, plain_leader


def drawn_wishes(rnd, n, many):
    found = []
    for _ in range(many):
        x, y = sorted(rnd.choices(range(n), k=2))
        low, high = sorted(rnd.choices(range(n), k=2))
        found.append((x, y, low, high))
    return found


def keeps(outline, wishes):
    return all(low <= plain_leader(outline, x, y) <= high for x, y, low, high in wishes)


class WishTest(unittest.TestCase):
    def test_against_all_outlines(self):
        rnd = generator(1)
        for n in range(1, 7):
            row = sorted(all_outlines(n))
            kinds = set()
            for _ in range(60):
                wishes = drawn_wishes(rnd, n, rnd.randrange(6))
                self.check(n, wishes, row, kinds)
                self.check(n, tuple(wishes), row, kinds)
            self.assertEqual(kinds, {"outline", "none"} if n > 1 else {"outline"})

    def check(self, n, wishes, row, kinds):
        good = [outline for outline in row if keeps(outline, wishes)]
        self.assertEqual(wished_count(n=n, wishes=wishes), len(good))
        for at, outline in enumerate(good):
            self.assertEqual(nth_wished(n=n, wishes=wishes, at=at), outline)
        for at in (len(good), len(good) + 1, 10 ** 20):
            self.assertEqual(error_of(nth_wished, n, wishes, at), ("Refused", 0))
        for x in range(n):
            for y in range(n):
                wanted = tuple(sorted({plain_leader(outline, x, y) for outline in good}))
                self.assertEqual(leaders(n=n, wishes=wishes, x=x, y=y), wanted)
        told = wish_evidence(n=n, wishes=wishes)
        kinds.add(told[0])
        self.assertIs(is_wish_evidence(n=n, wishes=wishes, value=told), True)
        if good:
            self.assertEqual(told, ("outline", good[0]))
        else:
            self.check_rows(n, wishes, told)
        for outline in row:
            self.assertIs(is_wish_evidence(n, wishes, ("outline", outline)), outline in good)

    def check_rows(self, n, wishes, told):
        word, rows = told
        self.assertEqual((word, rows[-1][:2]), ("none", (0, n - 1)))
        for at, (a, b, reasons) in enumerate(rows):
            self.assertLessEqual(a, b)
            self.assertEqual(len(reasons), b - a + 1)
            for t, (word, index) in zip(range(a, b + 1), reasons):
                if word == "wish":
                    x, y, low, high = wishes[index]
                    self.assertTrue(a <= x <= t <= y <= b and not low <= t <= high)
                else:
                    self.assertEqual(word, "row")
                    self.assertLess(index, at)
                    self.assertIn(rows[index][:2], ((a, t - 1), (t + 1, b)))

    def test_twelve_labels(self):
        rnd = generator(2)
        many = math.comb(24, 12) // 13
        self.assertEqual(wished_count(12, []), many)
        self.assertEqual(leaders(12, (), 3, 9), tuple(range(3, 10)))
        for _ in range(20):
            outline = drawn_outline(rnd, 12)
            pairs = [sorted(rnd.choices(range(12), k=2)) for _ in range(8)]
            tops = [leader(outline, x, y) for x, y in pairs]
            wishes = [(x, y, max(0, top - rnd.randrange(3)), top) for (x, y), top in zip(pairs, tops)]
            count = wished_count(12, wishes)
            self.assertGreater(count, 0)
            first, last = nth_wished(12, wishes, 0), nth_wished(12, wishes, count - 1)
            self.assertTrue(keeps(first, wishes) and keeps(last, wishes) and first <= outline <= last)
            self.assertEqual(wish_evidence(12, wishes), ("outline", first))
            self.assertEqual(error_of(nth_wished, 12, wishes, count), ("Refused", 0))
            for (x, y), top in zip(pairs, tops):
                self.assertIn(top, leaders(12, wishes, y, x))
        for at in (0, 1, 207, many - 1):
            self.assertEqual(nth_wished(12, [], at), nth_outline(12, at))
        self.assertEqual(outline_count(12), many)

    def test_wishes_that_no_ladder_keeps(self):
        rnd = generator(3)
        for n in range(1, 13):
            for wishes in (
                [(0, n - 1, 0, 0), (0, n - 1, n - 1, n - 1)], [(0, 0, n - 1, n - 1)],
                drawn_wishes(rnd, n, 3) + [(x, x + 1, x + x % 2, x + x % 2) for x in range(n - 1)]
                + [(0, n - 1, n - 1, n - 1), (0, n - 1, 0, 0)],
            ):
                if n > 1:
                    self.assertEqual(wished_count(n, wishes), 0)
                    self.assertEqual(leaders(n, wishes, 0, n - 1), ())
                    self.assertEqual(error_of(nth_wished, n, wishes, 0), ("Refused", 0))
                    told = wish_evidence(n, wishes)
                    self.check_rows(n, wishes, told)
                    self.assertIs(is_wish_evidence(n, wishes, told), True)
                    self.assertIs(is_wish_evidence(n, wishes[1:], told), False)
        self.assertEqual(wish_evidence(1, [(0, 0, 0, 0)]), ("outline", (0,)))


class EvidenceTest(unittest.TestCase):
    WISHES = ((0, 1, 1, 1), (1, 2, 1, 1), (0, 2, 0, 0), (0, 2, 2, 2))

    def test_rows(self):
        # 0 and 2 do not lead all, by wish 3 and wish 2; neither does 1.
        good = ("none", ((0, 2, (("wish", 3), ("wish", 2), ("wish", 2))),))
        self.assertIs(is_wish_evidence(3, self.WISHES, good), True)
        self.assertIs(is_wish_evidence(3, list(self.WISHES), good), True)
        last = good[1][0]
        other = ("none", ((1, 1, (("wish", 3),)), last))
        self.assertIs(is_wish_evidence(3, self.WISHES, other), False)
        wishes = ((0, 1, 2, 2), (0, 2, 1, 2), (2, 2, 0, 1))
        rows = ((0, 1, (("wish", 0), ("wish", 0))), (2, 2, (("wish", 2),)), (0, 2, (("wish", 0), ("row", 1), ("row", 0))))
        self.assertIs(is_wish_evidence(3, wishes, ("none", rows)), True)
        self.assertIs(is_wish_evidence(3, wishes, ("none", (rows[1], rows[0], rows[2]))), False)
        twice = rows[:2] + ((0, 2, (("row", 0), ("row", 1), ("row", 0))),)
        self.assertIs(is_wish_evidence(3, wishes, ("none", twice)), False)
        self.assertIs(is_wish_evidence(3, wishes, ("none", rows[:2])), False)
        self.assertIs(is_wish_evidence(3, wishes, ("none", rows + rows[:1])), False)
        self.assertIs(is_wish_evidence(3, wishes, ("none", rows[:2] + rows)), True)
        self.assertIs(is_wish_evidence(3, wishes, ("none", rows[:2] + rows[:1] + rows[2:])), True)
        self.assertIs(is_wish_evidence(3, wishes, ("none", (rows[0], rows[2], rows[1], rows[2]))), False)

    def test_rows_about_no_labels_or_too_many(self):
        empty = ("none", ((1, 0, ()), (0, 0, (("row", 0),)), (1, 1, (("row", 0),)), (0, 1, (("row", 2), ("row", 1)))))
        self.assertIs(is_wish_evidence(2, (), empty), False)
        whole = (0, 1, (("wish", 1), ("wish", 0)))
        wishes = ((0, 1, 0, 0), (0, 1, 1, 1))
        self.assertIs(is_wish_evidence(2, wishes, ("none", (whole,))), True)
        self.assertIs(is_wish_evidence(2, wishes, ("none", (whole, whole))), True)
        beyond = (0, 2, (("wish", 1), ("wish", 0), ("row", 0)))
        self.assertIs(is_wish_evidence(3, wishes, ("none", (whole, beyond))), True)
        self.assertIs(is_wish_evidence(2, wishes, ("none", (whole, beyond, whole))), False)
        for word in ("Row", "", "rows", b"row", 0, None, True):
            other = (0, 2, (("wish", 1), ("wish", 0), (word, 0)))
            self.assertIs(is_wish_evidence(3, wishes, ("none", (whole, other))), False)

    def test_any_value(self):
        wishes = ((0, 1, 2, 2), (0, 2, 1, 2), (2, 2, 0, 1))
        one, two = (0, 1, (("wish", 0), ("wish", 0))), (2, 2, (("wish", 2),))
        last = (0, 2, (("wish", 0), ("row", 1), ("row", 0)))
        self.assertIs(is_wish_evidence(3, wishes, ("none", (one, two, last))), True)
        wrong_rows = [
            [one, two, last], (list(one), two, last), (one[:2] + ([("wish", 0)] * 2,), two, last), (one[:2], two, last),
            (one + (0,), two, last), ((0, 1, (("wish", 0),)), two, last), ((0, 1, one[2] * 2), two, last),
            ((0, 1, (["wish", 0], ("wish", 0))), two, last), ((0, 1, (("wish", 0, 0), ("wish", 0))), two, last),
            ((0, 1, (("wish", False), ("wish", 0))), two, last), ((0, 1, (("wish", 3), ("wish", 0))), two, last),
            ((0, 1, (("wish", -3), ("wish", 0))), two, last), ((0, 1, (("Wish", 0), ("wish", 0))), two, last),
            ((0, 1, ((b"wish", 0), ("wish", 0))), two, last), ((0, 1, (("wish", 0), ("wish", 1))), two, last),
            ((False, True, one[2]), two, last), ((0, 3, one[2] * 2), two, last), ((1, 0, ()), one, two, last),
            (one, two, (0, 2, (("wish", 0), ("row", True), ("row", 0)))), (one, two, (0, 2, (("wish", 0), ("row", 1), ("row", 2)))),
            (one, two, (0, 2, (("wish", 0), ("row", -1), ("row", 0)))), (one, two, (0, 2, (("wish", 0), None, ("row", 0)))),
            (), None, one, deep_value(100), (one, two, None), (one, None, last), ((0, 1, None), two, last), 3, "none",
        ]
        for rows in wrong_rows:
            self.assertIs(is_wish_evidence(3, wishes, ("none", rows)), False, rows)
        for value in ODD + (["none", (one, two, last)], ("none",), ("none", (one, two, last), 0), ("row", (one, two, last)),
                            (b"none", (one, two, last)), (0, (one, two, last)), deep_value(200)):
            self.assertIs(is_wish_evidence(3, wishes, value), False, value)
        free = [(0, 2, 1, 2)]
        self.assertIs(is_wish_evidence(3, free, ("outline", (1, 0, 2))), True)
        self.assertIs(is_wish_evidence(3, free, ("outline", (2, 1, 0))), True)
        for outline in (
            (1, 2, 0), [1, 0, 2], (1, 0), (1, 0, 2, 3), (1, 0, 0), (True, 0, 2), (0, 1, 2), (1, 0, 3), None, (), "102", 1,
            (1, 0, -1), (1, (0,), 2), deep_value(100), (1, 1, 2), (1, 0.0, 2),
        ):
            self.assertIs(is_wish_evidence(3, free, ("outline", outline)), False, outline)
        self.assertIs(is_wish_evidence(3, free, ("none", (one, two, last))), False)


class ErrorTest(unittest.TestCase):
    def check(self, n, wishes, told):
        for work, more in ((wished_count, ()), (nth_wished, (0,)), (nth_wished, (10 ** 9,)), (leaders, (0, n - 1)),
                           (wish_evidence, ()), (is_wish_evidence, (None,))):
            self.assertEqual(error_of(work, n, wishes, *more), told, wishes)

    def test_no_wishes(self):
        for value in NO_SEQUENCES:
            self.check(3, value, ("InvalidQuestion", 0))
        good = (0, 1, 0, 2)
        wrong = list(ODD) + [
            list(good), good[:3], good + (0,), (1, 0, 0, 2), (0, 1, 2, 0), (0, 3, 0, 2), (0, 1, 0, 3), (-1, 1, 0, 2),
            (0, True, 0, 2), (False, 1, 0, 2), (0, 1, 0.0, 2), (0, 1, 0, None), ((0,), 1, 0, 2), deep_value(50), "0102",
        ]
        for value in wrong:
            self.check(3, [value], ("InvalidQuestion", 0))
            self.check(3, [good, value, None], ("InvalidQuestion", 1))
            self.check(3, (good, good, good, value), ("InvalidQuestion", 3))
        self.check(2, [(0, 1, 0, 1), (0, 2, 0, 1)], ("InvalidQuestion", 1))

    def test_later_changes(self):
        wishes = [(0, 2, 1, 1)]
        told = wish_evidence(3, wishes), leaders(3, wishes, 0, 2)
        wishes[0] = (0, 2, 0, 0)
        self.assertEqual(told, (("outline", (1, 0, 2)), (1,)))


if __name__ == "__main__":
    unittest.main()
