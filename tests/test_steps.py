"""Points 10 and 11: steps between recipes."""

import itertools
import unittest

from mixlabels.leaves import fewest, leaves, recipe_of, recipe_with
from mixlabels.mixtures import mixture_of
from mixlabels.recipes import depth, ingredient_row, is_recipe, part, placed
from mixlabels.steps import plain_steps, stepped, steps_between, swaps_between
from tests.helpers import (
    ODD, SIZES, all_recipes, deep_value, error_of, generator, grown_pairs, grown_recipe, nested, random_recipe,
)
from tests.test_recipes import chain, walk


def places_of(recipe, deep):
    return [place for place, _ in walk(recipe) if len(place) == deep]


def shuffled_like(rnd, k, recipe):
    """Another recipe with the same leaves."""
    pairs = list(leaves(recipe))
    rnd.shuffle(pairs)
    levels = {}
    for deep, ingredient in pairs:
        levels.setdefault(deep, []).append(ingredient)
    parts = []
    for deep in range(max(levels), -1, -1):
        parts = [tuple(parts[at:at + k]) for at in range(0, len(parts), k)] + levels.get(deep, [])
        rnd.shuffle(parts)
    return parts[0]


class SteppedTest(unittest.TestCase):
    def test_each_step(self):
        self.assertEqual(stepped(k=2, recipe=(0, 1), steps=[("split", ())]), ((0, 1), (0, 1)))
        self.assertEqual(stepped(3, (0, 1, 2), (("split", (2,)),)), (0, 1, (2, 2, 2)))
        self.assertEqual(stepped(2, ((0, 1), (0, 1)), [("join", ())]), (0, 1))
        self.assertEqual(stepped(2, (1, ((0, 1), (0, 1))), [("join", (1,))]), (1, (0, 1)))
        self.assertEqual(stepped(2, (0, (1, 2)), [("swap", (0,), (1,))]), ((1, 2), 0))
        self.assertEqual(stepped(2, ((0, 1), (2, 3)), [("swap", (0, 0), (1, 1))]), ((3, 1), (2, 0)))
        self.assertEqual(stepped(2, ((0, 1), (2, 3)), [("turn", ())]), ((0, 2), (1, 3)))
        three = ((0, 1, 2), (3, 4, 5), (6, 7, (8, 8, 9)))
        self.assertEqual(stepped(3, three, [("turn", ())]), ((0, 3, 6), (1, 4, 7), (2, 5, (8, 8, 9))))
        self.assertEqual(stepped(5, 3, []), 3)
        self.assertEqual(stepped(2, 0, [("split", ()), ("split", (1,)), ("join", (1,)), ("join", ())]), 0)

    def test_mixture_stays(self):
        rnd = generator(1)
        for k in SIZES:
            for _ in range(60):
                recipe = random_recipe(rnd, k, 3, 3)
                for step in self.some_steps(rnd, recipe):
                    if error_of(stepped, k, recipe, [step]) is None:
                        done = stepped(k, recipe, [step])
                        self.assertTrue(is_recipe(k, 3, done))
                        self.assertEqual(mixture_of(k, 3, done), mixture_of(k, 3, recipe))

    def some_steps(self, rnd, recipe):
        places = [place for place, _ in walk(recipe)]
        for place in rnd.sample(places, min(len(places), 8)):
            for word in ("split", "join", "turn"):
                yield word, place
            yield "swap", place, rnd.choice(places_of(recipe, len(place)))

    def test_what_can_be_made(self):
        rnd = generator(2)
        for k in SIZES:
            for _ in range(40):
                recipe = random_recipe(rnd, k, 2, 3)
                for place, here in walk(recipe):
                    blend = isinstance(here, tuple)
                    wanted = {
                        ("split", place): True,
                        ("join", place): blend and len(set(map(str, here))) == 1,
                        ("turn", place): blend and all(isinstance(cup, tuple) for cup in here),
                        ("swap", place, place): False,
                    }
                    for step, can in wanted.items():
                        told = error_of(stepped, k, recipe, [step])
                        self.assertEqual(told, None if can else ("Refused", 0), (recipe, step))

    def test_no_sequence(self):
        for value in ODD:
            if not isinstance(value, (list, tuple)):
                self.assertEqual(error_of(stepped, 2, (0, 1), value), ("Refused", 0), value)

    def test_no_steps(self):
        recipe = ((0, 1), (0, 1))
        wrong = list(ODD) + [
            ["join", ()], ("join",), ("join", (), ()), ("join", []), ("join", (0,)), ("join", (0, 0)), ("split", (5,)),
            ("split", None), ("split", (0, 0, 0)), ("swap", (0,)), ("swap", (0,), (0,)), ("swap", (0,), (1, 0)),
            ("swap", (), ()), ("swap", (0,), (2,)), ("swap", [0], (1,)), ("swap", (0,), [1]), ("swap", (0,), (1,), ()),
            ("turn", (0,)), ("turn", (0, 0)), ("turn", ()) + ((),), ("Join", ()), ("", ()), (b"join", ()), (0, ()),
            ("join", (True,)), ("split", (-1,)), ("split", ((0,),)), ("swap", (False,), (True,)), deep_value(400),
        ]
        for value in wrong:
            self.assertEqual(error_of(stepped, 2, recipe, [value]), ("Refused", 0), value)
            steps = [("swap", (0,), (1,)), ("turn", ()), ("turn", ()), value, None]
            self.assertEqual(error_of(stepped, 2, recipe, steps), ("Refused", 3), value)

    def test_behind_other_steps(self):
        self.assertEqual(error_of(stepped, 2, 0, [("split", (0,)), ("split", ())]), ("Refused", 0))
        self.assertEqual(stepped(2, 0, [("split", ()), ("split", (0,))]), ((0, 0), 0))
        self.assertEqual(error_of(stepped, 2, 0, (("split", ()), ("join", ()), ("join", ()))), ("Refused", 2))

    def test_limits(self):
        for k in SIZES:
            recipe = chain(k, 12)
            deepest = max((place for place, _ in walk(recipe)), key=len)
            self.assertEqual(error_of(stepped, k, recipe, [("split", deepest)]), ("Refused", 0))
            self.assertEqual(error_of(stepped, k, recipe, [("split", ())]), ("Refused", 0))
            self.assertIsNone(error_of(stepped, k, recipe, [("split", (1,))]))
            short = chain(k, 11)
            deepest = max((place for place, _ in walk(short)), key=len)
            self.assertEqual(depth(stepped(k, short, [("split", deepest)])), 12)
        half = nested(9, (0, 1))
        self.assertEqual(len(ingredient_row(stepped(2, (half, 0), [("join", (0, 0)), ("swap", (0,), (1,))]))), 769)
        self.assertEqual(error_of(stepped, 2, half, [("split", ())]), ("Refused", 0))
        grown = grown_recipe(generator(3), 2, 3, 2000, 11)
        self.assertEqual(len(ingredient_row(grown)), 2000)
        place = max((place for place, here in walk(grown) if not isinstance(here, tuple)), key=len)
        self.assertEqual(error_of(stepped, 2, grown, [("split", place)]), ("Refused", 0))


    def test_2000_ingredients_and_more(self):
        rnd = generator(9)
        for k in SIZES:
            most = 2000 - (2000 - 1) % (k - 1)
            grown = grown_recipe(rnd, k, 3, most - (k - 1), 11)
            places = [place for place, here in walk(grown) if not isinstance(here, tuple)]
            done = stepped(k, grown, [("split", places[0])])
            self.assertEqual(len(ingredient_row(done)), most)
            self.assertEqual(error_of(stepped, k, done, [("split", places[-1])]), ("Refused", 0))
            for many, told in ((most - k * (k - 1), None), (most - (k - 1) * (k - 1), ("Refused", 0))):
                grown = grown_recipe(rnd, k, 3, many, 11)
                blends = [place for place, here in walk(grown) if here in BLENDS[k]]
                self.assertEqual(error_of(stepped, k, grown, [("split", blends[0])]), told)


BLENDS = {k: list(itertools.product(range(3), repeat=k)) for k in SIZES}


class SwapsBetweenTest(unittest.TestCase):
    def check(self, one, other):
        steps = swaps_between(one=one, other=other)
        self.assertIsInstance(steps, tuple)
        self.assertTrue(all(step[0] == "swap" for step in steps))
        self.assertLess(len(steps), len(ingredient_row(one)))
        k = len(one) if isinstance(one, tuple) else 2
        self.assertEqual(stepped(k, one, steps), other)

    def test_same_leaves(self):
        rnd = generator(4)
        for k in SIZES:
            for _ in range(150):
                recipe = random_recipe(rnd, k, 3, 4)
                self.check(recipe, shuffled_like(rnd, k, recipe))
                self.check(recipe, recipe)
            grown = grown_recipe(rnd, k, 4, 2000)
            self.check(grown, shuffled_like(rnd, k, grown))
        self.check(7, 7)

    def test_all_small(self):
        groups = {}
        for recipe in all_recipes(2, 2, 2) + [(a, b, c) for a in range(3) for b in range(3) for c in range(3)]:
            groups.setdefault(leaves(recipe), []).append(recipe)
        for recipes in groups.values():
            for one in recipes:
                for other in recipes:
                    self.check(one, other)

    def test_refused(self):
        for one, other in ((0, 1), (0, (0, 0)), ((0, 1), (1, 1)), ((0, (0, 1)), (1, (0, 0))), ((0, 0), ((0, 0), 0))):
            self.assertEqual(error_of(swaps_between, one, other), ("Refused", 0))


class StepsBetweenTest(unittest.TestCase):
    def check(self, k, one, other):
        steps = steps_between(k=k, one=one, other=other)
        self.assertIsInstance(steps, tuple)
        self.assertTrue(all(step[0] in ("split", "join", "swap") for step in steps))
        a, b = len(ingredient_row(one)), len(ingredient_row(other))
        f = len(fewest(k, mixture_of(k, 12, one)))
        self.assertLessEqual(len(steps), 2 * a + 2 * b - 3 * f - 1)
        deepest = max(depth(one), depth(other))
        now = one
        for step in steps:
            now = stepped(k, now, [step])
            if a + b < 300 or step[0] == "split":
                self.assertLessEqual(depth(now), deepest)
                self.assertLessEqual(len(ingredient_row(now)), max(a, b))
        self.assertEqual(now, other)

    def test_small(self):
        for k, deep in ((2, 2), (3, 1), (4, 1), (5, 1)):
            groups = {}
            for recipe in all_recipes(k, 2, deep):
                groups.setdefault(mixture_of(k, 2, recipe), []).append(recipe)
            for recipes in groups.values():
                for one in recipes:
                    for other in recipes:
                        self.check(k, one, other)

    def test_random(self):
        rnd = generator(5)
        for k in SIZES:
            for _ in range(60):
                one = random_recipe(rnd, k, 2, 4)
                other = shuffled_like(rnd, k, one)
                for place, here in walk(other):
                    if not isinstance(here, tuple) and rnd.random() < 0.2:
                        other = placed(other, place, (here,) * k)
                self.check(k, one, other)
                self.check(k, other, one)

    def test_large(self):
        rnd = generator(6)
        for k in SIZES:
            one = grown_recipe(rnd, k, 2, 1500)
            least = recipe_of(k, mixture_of(k, 2, one))
            self.check(k, one, least)
            self.check(k, least, one)
            self.check(k, one, shuffled_like(rnd, k, one))

    def test_refused(self):
        for one, other in ((0, 1), ((0, 1), 0), ((0, (0, 1)), (1, (0, 1))), (11, (0, 0))):
            self.assertEqual(error_of(steps_between, 2, one, other), ("Refused", 0))
        self.assertEqual(steps_between(2, 5, 5), ())


class PlainStepsTest(unittest.TestCase):
    def check(self, k, recipe, place, other):
        steps = plain_steps(k=k, recipe=recipe, place=place, other=other)
        self.assertIsInstance(steps, tuple)
        same = 0
        while place[same] == other[same]:
            same += 1
        self.assertLessEqual(len(steps), 2 * k * (len(place) - same - 1) + 1)
        for step in steps:
            self.assertIn(step[0], ("split", "join", "turn", "swap"))
            if step[0] == "swap":
                self.assertEqual(step[1][:-1], step[2][:-1])
        self.assertEqual(stepped(k, recipe, steps), stepped(k, recipe, [("swap", place, other)]))

    def test_all_pairs(self):
        rnd = generator(7)
        for k in SIZES:
            for _ in range(12 if k < 4 else 4):
                recipe = random_recipe(rnd, k, 3, 3, 0.8)
                for deep in range(1, depth(recipe) + 1):
                    places = places_of(recipe, deep)
                    for _ in range(60):
                        place, other = rnd.choice(places), rnd.choice(places)
                        if place != other:
                            self.check(k, recipe, place, other)

    def test_deep_and_large(self):
        rnd = generator(8)
        for k in SIZES:
            both = (chain(k, 11, 1), chain(k, 11, 2)) + (0,) * (k - 2)
            self.check(k, both, (0,) * 12, (1,) + (0,) * 11)
            recipe = recipe_with(k, grown_pairs(rnd, k, 3, 1800))
            for deep in range(1, depth(recipe) + 1):
                places = places_of(recipe, deep)
                self.check(k, recipe, places[0], places[-1])
                place, other = rnd.sample(places, 2)
                self.check(k, recipe, place, other)

    def test_refused(self):
        recipe = ((0, 1), (2, (3, 4)))
        wrong = [((0,), (0,)), ((0,), (1, 0)), ((), ()), ((2,), (0,)), ((0, 0), (0, 2)), ([0], (1,)), ((0,), [1])]
        wrong += [((0, 0, 0), (1, 1, 0)), ((0,), (-1,)), ((False,), (True,))]
        wrong += [(value, (0,)) for value in ODD] + [((1,), value) for value in ODD] + [(value, value) for value in ODD]
        for place, other in wrong:
            self.assertEqual(error_of(plain_steps, 2, recipe, place, other), ("Refused", 0), (place, other))
        self.assertEqual(error_of(plain_steps, 2, 0, (0,), (1,)), ("Refused", 0))
        self.assertEqual(part(stepped(2, recipe, plain_steps(2, recipe, (0, 0), (1, 1))), (0, 0)), (3, 4))


if __name__ == "__main__":
    unittest.main()
