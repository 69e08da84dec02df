"""Point 55: rankings."""

import itertools
import unittest

from mixlabels.alike import kinds
from mixlabels.combining import join_table, mean_table, pair_table
from mixlabels.forms import form_table, renamed
from mixlabels.ladders import ladder_table
from mixlabels.rankings import is_ranking_evidence, ranking_evidence, rankings
from mixlabels.tables import Table
from mixlabels.wheels import labels_in
from tests.faithful import called_anew, chain_form, drawn_faithful, faithful_tables, star_table, unfaithful_tables
from tests.helpers import ODD, SIZES, deep_value, error_of, generator, least_table, most_labels
from tests.test_ladders import drawn_outline, plain_fall


def plain_is_ranking(table, row):
    names = [row.index(label) for label in range(table.labels)]
    return plain_fall(renamed(table, names)) is None


def plain_rankings(table):
    return tuple(row for row in itertools.permutations(range(table.labels)) if plain_is_ranking(table, row))


def plain_hindrances(table):
    """All tuples that show that there is no ranking."""
    def join(a, b):
        return table.blend([a] + [b] * (table.k - 1))

    labels = range(table.labels)
    inside = {a: labels_in(table, a) for a in labels}
    found = {("wheel", a, b) for a in labels for b in labels if a < b and a in inside[b] and b in inside[a]}
    for a, b, c in itertools.product(labels, repeat=3):
        if b < c and join(a, b) == b and join(a, c) == c and join(b, c) not in (b, c):
            found.add(("fork", a, b, c))
        if a < b < c and join(a, b) == join(a, c) == join(b, c) and join(a, b) not in (a, b, c):
            found.add(("three", a, b, c))
    return found


def told_by_blends(table):
    """The labels that the blend of some cups, not all alike, has."""
    rows = itertools.product(range(table.labels), repeat=table.k)
    return {table.blend(cups) for cups in rows if len(set(cups)) > 1}


class RankingTest(unittest.TestCase):
    def test_against_all_orders(self):
        rnd = generator(1)
        for k in SIZES:
            tables = [table for n in range(1, min(4, most_labels(k)) + 1) for table in kinds(k, n)]
            tables += [table for table in faithful_tables(k) if table.labels <= 5]
            tables += [ladder_table(k, drawn_outline(rnd, n)) for n in range(1, min(6, most_labels(k)) + 1)]
            with_some = 0
            for table in [called_anew(rnd, table) for table in tables]:
                wanted = plain_rankings(table)
                self.assertEqual(rankings(table=table), wanted)
                with_some += len(wanted) > 0
                if wanted:
                    self.assertEqual(len(wanted), 2 ** len(told_by_blends(table)))
                self.check_evidence(table, wanted)
            self.assertGreater(with_some, 5)

    def check_evidence(self, table, wanted):
        told = ranking_evidence(table=table)
        self.assertIs(is_ranking_evidence(table=table, value=told), True)
        wrong = plain_hindrances(table)
        if wanted:
            self.assertEqual((told, wrong), (("ranking", wanted[0]), set()))
        else:
            self.assertIn(told, wrong)

    def test_great_tables(self):
        rnd = generator(2)
        for k in SIZES:
            n = most_labels(k)
            for outline in (tuple(range(n)), drawn_outline(rnd, n)):
                table = called_anew(rnd, ladder_table(k, outline))
                told = rankings(table)
                self.assertEqual(len(told), 2 ** len(told_by_blends(table)))
                self.assertEqual(list(told), sorted(set(told)))
                for row in rnd.sample(told, min(len(told), 5)):
                    self.assertTrue(plain_is_ranking(table, row))
                    self.assertIs(is_ranking_evidence(table, ("ranking", row)), True)
                self.assertEqual(ranking_evidence(table), ("ranking", told[0]))
            for _ in range(12):
                table = drawn_faithful(rnd, k)
                if len(rankings(table)) == 0:
                    self.assertIn(ranking_evidence(table), plain_hindrances(table))
                else:
                    self.assertEqual(ranking_evidence(table), ("ranking", rankings(table)[0]))

    def test_each_kind(self):
        for k in SIZES:
            size = 2 if k % 2 else 3
            self.assertEqual(ranking_evidence(mean_table(k, size))[0], "wheel")
            self.assertEqual(rankings(mean_table(k, size)), ())
            if k < 5:
                self.assertEqual(ranking_evidence(star_table(k, 4)), ("three", 1, 2, 3))
                self.assertEqual(rankings(star_table(k, 4)), ())
                # 0 is in 1 and in 2, these are in 3.
                joins = [[0, 1, 2, 3], [1, 1, 3, 3], [2, 3, 2, 3], [3, 3, 3, 3]]
                self.assertEqual(ranking_evidence(join_table(k, joins)), ("fork", 0, 1, 2))
                self.assertEqual(rankings(join_table(k, joins)), ())
            self.assertEqual(rankings(star_table(k, 3)), ((1, 0, 2), (2, 0, 1)))
            self.assertEqual(rankings(Table(k, 1, [0])), ((0,),))
            self.assertEqual(rankings(least_table(k, 2)), ((0, 1), (1, 0)))
            self.assertEqual(rankings(least_table(k, 3)), ((0, 1, 2), (0, 2, 1), (1, 2, 0), (2, 1, 0)))
        self.assertEqual(len(rankings(ladder_table(2, list(range(12))))), 2 ** 11)
        self.assertEqual(ranking_evidence(form_table(chain_form(2, (1, 3), [(0, 1)])))[0], "wheel")

    def test_is_evidence_tells_all(self):
        rnd = generator(3)
        for k in SIZES:
            tables = [drawn_faithful(rnd, k) for _ in range(40)]
            tables = [table for table in tables if 2 < table.labels < 5][:3]
            if k < 5:
                tables.append(called_anew(rnd, pair_table(least_table(k, 2), least_table(k, 2))))
            for table in tables:
                wrong = plain_hindrances(table)
                for a, b, c in itertools.product(range(table.labels + 1), repeat=3):
                    for value in (("wheel", a, b), ("fork", a, b, c), ("three", a, b, c)):
                        self.assertIs(is_ranking_evidence(table, value), value in wrong, value)
                for row in itertools.permutations(range(table.labels)):
                    shows = plain_is_ranking(table, row)
                    self.assertIs(is_ranking_evidence(table, ("ranking", row)), shows)

    def test_any_value(self):
        wheel, star, ladder = mean_table(2, 3), star_table(2, 4), least_table(2, 3)
        fork = join_table(2, [[0, 1, 2, 3], [1, 1, 3, 3], [2, 3, 2, 3], [3, 3, 3, 3]])
        for table, value in ((wheel, ("wheel", 0, 1)), (star, ("three", 1, 2, 3)), (fork, ("fork", 0, 1, 2)),
                             (ladder, ("ranking", (1, 2, 0)))):
            self.assertIs(is_ranking_evidence(table, value), True)
            wrong = [list(value), value[:-1], value + (0,), (b"wheel",) + value[1:], ("Wheel",) + value[1:], value[:1],
                     (value[0], *value[:0:-1]) if value[0] != "ranking" else ("ranking", [1, 2, 0]), deep_value(100)]
            wrong += [value[:-1] + (True,), value[:1] + (False,) + value[2:], value[:1] + (value[1:],), ("ranking",)]
            wrong += [("ranking", row) for row in ((0, 1), (0, 1, 2, 3, 4), (0, 0, 1, 2), (0, 0, 0), "012", None, (False, 1, 2),
                                                   (0, 1, 9), (0, 1, -1), (0, 1, 2.0), 3, (0, 2, 1, 3, 0))]
            for told in wrong + list(ODD):
                self.assertIs(is_ranking_evidence(table, told), False, told)
        self.assertIs(is_ranking_evidence(fork, ("fork", 0, 2, 1)), False)
        self.assertIs(is_ranking_evidence(wheel, ("fork", 0, 1, 2)), False)
        self.assertIs(is_ranking_evidence(star, ("wheel", 0, 1)), False)
        self.assertIs(is_ranking_evidence(pair_table(ladder, wheel), ("wheel", 0, 1)), True)
        self.assertIs(is_ranking_evidence(pair_table(ladder, wheel), ("wheel", 2, 3)), False)

    def test_not_faithful(self):
        for k in SIZES:
            for table, at in unfaithful_tables(k):
                self.assertEqual(error_of(rankings, table), ("NotFaithful", at))
                self.assertEqual(error_of(ranking_evidence, table), ("NotFaithful", at))
                for value in (None, ("ranking", (0, 1, 2)), ("wheel", 0, 1)):
                    self.assertEqual(error_of(is_ranking_evidence, table, value), ("NotFaithful", at))


if __name__ == "__main__":
    unittest.main()
