"""The names, arguments and classes of the interface; points 1, 2 and 4."""

import importlib
import inspect
import unittest

from mixlabels import errors
from mixlabels.chains import Chain
from mixlabels.oracles import Oracle
from mixlabels.tables import Table
from mixlabels.turns import Search

INTERFACE = {
    "ratios": "is_fraction(value) made(top,bottom) added(one,other) less(one,other) times(one,other) "
              "compared(one,other)",
    "recipes": "is_bowl(value) checked_bowl(value) is_recipe(k,ingredients,value) "
               "checked_recipe(k,ingredients,value) ingredient_row(recipe) depth(recipe) part(recipe,place) "
               "placed(recipe,place,new)",
    "mixtures": "is_mixture(k,ingredients,value) made_mixture(k,n,counts) mixture_of(k,ingredients,recipe) "
                "blended(k,mixtures) contained(mixture) share(k,mixture,at) counts_at(k,mixture,n) "
                "is_modulus(k,value) remainders(k,mixture,modulus)",
    "leaves": "leaves(recipe) recipe_with(k,pairs) arrangement_count(k,pairs) fewest(k,mixture) "
              "recipe_of(k,mixture) recipe_count(k,mixture,deep) full(k,recipe,deep)",
    "steps": "stepped(k,recipe,steps) swaps_between(one,other) steps_between(k,one,other) "
             "plain_steps(k,recipe,place,other)",
    "recipetexts": "recipe_text(recipe) read_recipe(k,ingredients,text)",
    "tables": "Table(k,labels,results)",
    "tasting": "label_of(table,naming,recipe) stages(table,naming,recipe)",
    "faults": "fault(table) is_fault(table,value) columns(rows) two_recipes(table,naming) "
              "is_two_recipes(table,naming,value)",
    "standard": "standard_table(k,m,d) standard_naming(k,m,d)",
    "combining": "join_table(k,joins) mean_table(k,n) pair_table(one,other) part_table(table,some) "
                 "image_table(table,classes)",
    "texts": "table_text(table) read_table(text)",
    "cases": "is_case(ingredients,modulus,value) all_cases(ingredients,modulus) case_of(k,mixture,modulus) "
             "blend_cases(k,modulus,cases)",
    "fillings": "count_of(k,modulus,case,depth) mixture_at(k,modulus,case,depth,at) least_depth(k,modulus,case) "
                "near(k,mixture,modulus,case,depth)",
    "oracles": "Oracle(k,ingredients,modulus,answers) paired(one,other)",
    "moduli": "settling_modulus(oracle) set_moduli(oracle) with_modulus(oracle,modulus) reduced(oracle) "
              "agree(one,other)",
    "chains": "Chain(k,modulus,depth,start,goal)",
    "turns": "Search(chain,low,high) on_case(k,modulus,case,weights,bound) by_labels(k,ingredients,weights,bound)",
    "plans": "checked_plan(k,ingredients,value) plan_depth(k,ingredients,plan) plan_mixture(k,ingredients,plan) "
             "unfolded(k,ingredients,plan) folded(k,ingredients,recipe) plan_labels(table,naming,plan) "
             "plan_label(table,naming,plan)",
    "lines": "line(table,naming,i,j) line_label(table,naming,i,j,t) line_plan(k,ingredients,i,j,t) "
             "shift(table,naming) shift_modulus(table,naming) label_modulus(k,labels)",
    "stories": "path(table,naming,one,other) is_story(table,naming,value) story(table,naming,one,other,index)",
    "questions": "answer(k,question,mixture) checked_question(k,ingredients,value) "
                 "comparisons(k,ingredients,question) question_modulus(k,ingredients,question)",
    "closed": "is_closed(table,value) closure(table,labels) closed_sets(table) generators(table,labels)",
}
METHODS = {
    Table: {"blend": "cups"},
    Oracle: {"case_answer": "case", "mixture_answer": "mixture"},
    Chain: {"mixture_after": "index", "jump_at": "index"},
    Search: {"halved": "is_like_low"},
}
ERRORS = (
    "InvalidBowl InvalidRecipe InvalidMixture InvalidTable InvalidNaming InvalidForm InvalidQuestion InvalidPrices "
    "InvalidPair InvalidText NotFaithful Refused InvalidCommand"
).split()


class InterfaceTest(unittest.TestCase):
    def test_functions_and_classes(self):
        for name, told in INTERFACE.items():
            module = importlib.import_module(f"mixlabels.{name}")
            for word in told.split():
                called, rest = word[:-1].split("(")
                thing = getattr(module, called)
                self.assertEqual(thing.__module__, f"mixlabels.{name}")
                self.assertEqual(list(inspect.signature(thing).parameters), rest.split(","), word)

    def test_methods_stand_in_their_class(self):
        for kind, methods in METHODS.items():
            for name, argument in methods.items():
                self.assertEqual(list(inspect.signature(vars(kind)[name]).parameters), ["self", argument])


class ErrorsTest(unittest.TestCase):
    def test_classes(self):
        self.assertEqual(errors.MixError.__bases__, (ValueError,))
        for name in ERRORS:
            kind = getattr(errors, name)
            self.assertEqual(kind.__bases__, (errors.MixError,), name)
            self.assertEqual(kind.__module__, "mixlabels.errors")

    def test_at_is_kept(self):
        for name in ERRORS[:-1]:
            kind = getattr(errors, name)
            for value in (0, 7, 10 ** 40, None, "text", (1, 2), [1], True, {}):
                self.assertEqual(kind(value).at, value)
                self.assertEqual(kind(at=value).at, value)
            kept = [1]
            self.assertIs(kind(kept).at, kept)

    def test_command_has_no_argument(self):
        with self.assertRaises(errors.MixError):
            raise errors.InvalidCommand()


if __name__ == "__main__":
    unittest.main()
