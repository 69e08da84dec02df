"""The names, arguments and classes of the interface; points 1, 2 and 4."""

import importlib
import inspect
import unittest

from mixlabels import errors
from mixlabels.chains import Chain
from mixlabels.desk import Desk
from mixlabels.likenesses import Likenesses
from mixlabels.oracles import Oracle
from mixlabels.racks import Rack
from mixlabels.tables import Table
from mixlabels.turns import Search
from mixlabels.yard import Yard

INTERFACE = {
    "ratios": "is_fraction(value) made(top,bottom) added(one,other) less(one,other) times(one,other) "
              "compared(one,other)",
    "recipes": "is_bowl(value) checked_bowl(value) is_recipe(k,ingredients,value) "
               "checked_recipe(k,ingredients,value) ingredient_row(recipe) depth(recipe) part(recipe,place) "
               "placed(recipe,place,new)",
    "mixtures": "is_mixture(k,ingredients,value) made_mixture(k,n,counts) mixture_of(k,ingredients,recipe) "
                "blended(k,mixtures) contained(mixture) share(k,mixture,at) counts_at(k,mixture,n) "
                "is_modulus(k,value) remainders(k,mixture,modulus)",
    "leaves": "leaves(recipe) recipe_with(k,pairs) arrangement_count(k,pairs) fewest(k,mixture) "
              "recipe_of(k,mixture) recipe_count(k,mixture,deep) full(k,recipe,deep)",
    "steps": "stepped(k,recipe,steps) swaps_between(one,other) steps_between(k,one,other) "
             "plain_steps(k,recipe,place,other)",
    "recipetexts": "recipe_text(recipe) read_recipe(k,ingredients,text)",
    "tables": "Table(k,labels,results)",
    "tasting": "label_of(table,naming,recipe) stages(table,naming,recipe)",
    "faults": "fault(table) is_fault(table,value) columns(rows) two_recipes(table,naming) "
              "is_two_recipes(table,naming,value)",
    "standard": "standard_table(k,m,d) standard_naming(k,m,d)",
    "combining": "join_table(k,joins) mean_table(k,n) pair_table(one,other) part_table(table,some) "
                 "image_table(table,classes)",
    "texts": "table_text(table) read_table(text)",
    "cases": "is_case(ingredients,modulus,value) all_cases(ingredients,modulus) case_of(k,mixture,modulus) "
             "blend_cases(k,modulus,cases)",
    "fillings": "count_of(k,modulus,case,depth) mixture_at(k,modulus,case,depth,at) least_depth(k,modulus,case) "
                "near(k,mixture,modulus,case,depth)",
    "oracles": "Oracle(k,ingredients,modulus,answers) paired(one,other)",
    "moduli": "settling_modulus(oracle) set_moduli(oracle) with_modulus(oracle,modulus) reduced(oracle) "
              "agree(one,other)",
    "chains": "Chain(k,modulus,depth,start,goal)",
    "turns": "Search(chain,low,high) on_case(k,modulus,case,weights,bound) by_labels(k,ingredients,weights,bound)",
    "plans": "checked_plan(k,ingredients,value) plan_depth(k,ingredients,plan) plan_mixture(k,ingredients,plan) "
             "unfolded(k,ingredients,plan) folded(k,ingredients,recipe) plan_labels(table,naming,plan) "
             "plan_label(table,naming,plan)",
    "lines": "line(table,naming,i,j) line_label(table,naming,i,j,t) line_plan(k,ingredients,i,j,t) "
             "shift(table,naming) shift_modulus(table,naming) label_modulus(k,labels)",
    "stories": "path(table,naming,one,other) is_story(table,naming,value) story(table,naming,one,other,index)",
    "questions": "answer(k,question,mixture) checked_question(k,ingredients,value) "
                 "comparisons(k,ingredients,question) question_modulus(k,ingredients,question)",
    "closed": "is_closed(table,value) closure(table,labels) closed_sets(table) generators(table,labels)",
    "parting": "is_parting(table,naming,question,value) parting_story(table,naming,question,one,other) "
               "refutation(table,naming,question) more_story(table,naming,i,j)",
    "knots": "knots(table,naming,recipe) pumped(table,naming,recipe,outer,inner,times) untied(table,naming,recipe)",
    "wheels": "labels_in(table,a) wheels(table) wheel_of(table,a) wheel_sum(table,o,a,b) many_times(table,o,a,n) "
              "exponent(table,o) table_modulus(table)",
    "lifting": "wheel_joins(table) lift(table,a,b) mixture_label(table,naming,mixture) case_label(table,naming,value)",
    "forms": "Form(k,sums,joins,maps) form_of(table) form_table(form) renamed(table,names)",
    "alike": "likeness(one,other) symmetry_count(table) kinds(k,labels) faithful_count(k,labels)",
    "patterns": "pattern(k,comparisons,mixture) patterns(k,comparisons,modulus,case)",
    "deciding": "failing(k,ingredients,question) oracle_of(k,ingredients,question) "
                "plain_question(k,ingredients,question) settled_sets(k,ingredients,question) "
                "case_answers(k,ingredients,question,modulus) parting_mixtures(k,ingredients,question,modulus) "
                "same_answers(k,ingredients,one,other)",
    "trails": "is_trail(oracle,value) case_after(oracle,case,trail) parting_trail(oracle,one,other)",
    "least": "classes(oracle) least_size(oracle) least_answers(oracle) least_table(oracle) least_label(oracle,mixture)",
    "lower": "lower_paper(oracle) is_lower_paper(oracle,n,value)",
    "readings": "reading(oracle,table,naming) is_mistake(oracle,table,naming,value)",
    "leastforms": "settled_set(oracle,contained) periods(oracle,contained) least_form(oracle)",
    "leastsizes": "remainder_oracle(k,weights,modulus,value) remainder_size(weights,modulus,value) "
                  "among_oracle(k,ingredients,some,least) among_size(ingredients,some,least)",
    "rising": "fall(table) is_fall(table,value)",
    "ladders": "leader(priorities,x,y) ladder_table(k,priorities)",
    "outlines": "outline_for(priorities) outline_of(table) list_count(outline) outline_count(n) nth_outline(n,at) "
                "outline_index(outline)",
    "wishes": "wished_count(n,wishes) nth_wished(n,wishes,at) leaders(n,wishes,x,y) wish_evidence(n,wishes) "
              "is_wish_evidence(n,wishes,value)",
    "climbing": "excess(one,other) sway(outline) outline_of_sway(numbers) greatest_below(one,other) "
                "least_above(one,other) just_above(outline) just_below(outline) climb(one,other)",
    "rankings": "rankings(table) ranking_evidence(table) is_ranking_evidence(table,value)",
    "prices": "checked_prices(table,prices) gain(table,prices) loss(table,prices) excess(table,prices) "
              "circle(table,a,b)",
    "costs": "costs(table,prices) is_costs(table,prices,value) cheapest_recipe(table,prices,label)",
    "trades": "is_trade(table,stock,value) after(table,stock,trade)",
    "worth": "worth(table,stock,prices) is_worth(table,stock,prices,value) near_trade(table,stock,prices,gap)",
    "reach": "reach(table,stock,prices) is_reach(table,stock,prices,value)",
    "likenesses": "Likenesses(k,ingredients,pairs) book_label(table,naming,mixture) broken(told,table,naming) "
                  "sealed_sets(told) sealing(told,mixture)",
    "following": "sure_alike(told,one,other) multipliers(told,one,other) is_multipliers(told,one,other,value)",
    "exchanges": "exchanged(told,mixture,exchange) passage(told,one,other) is_passage(told,one,other,value)",
    "markings": "is_marking(k,ingredients,value) marked(k,marking,mixture) marking_book(k,ingredients,marking) "
                "marks_apart(told,one,other,value) least_marking(told,one,other)",
    "finest": "sure_form(told,some) class_count(told) finest_book(told) first_alike(told,mixture) needless(told)",
    "hints": "cells_told(k,labels,cells) sure_result(told,cups) same_labels(told)",
    "guides": "is_guide(table,naming,value) follow(guide,label) depths(table,naming) depth_guide(table,naming) "
              "cheapest(table,naming,costs,fee) is_floor(table,naming,costs,fee,value)",
    "fullness": "full_labels(table,naming,depth) course(table,naming) full_counts(table,naming,depth) "
                "counts_modulo(table,naming,depth,modulus) far_counts(table,naming,depth)",
    "ranks": "full_at(table,naming,depth,label,index) rank_of(table,naming,recipe) mixture_counts(table,naming,mixture)",
    "racks": "Rack(tables) standard_rack(sizes,m,d)",
    "mixed": "checked_mixed(sizes,ingredients,value) mixed_shares(ingredients,recipe) is_shares(sizes,value) "
             "mixed_recipe(sizes,shares) share_remainders(shares,modulus) told_apart(sizes,one,other)",
    "across": "mixed_label(rack,naming,recipe) rack_fault(rack) is_rack_fault(rack,value) "
              "shares_label(rack,naming,shares)",
    "othersizes": "other_table(table,size) table_sizes(table)",
    "bowlstories": "bowl_story(rack,naming,k,l) is_bowl_story(rack,naming,k,value)",
    "wear": "worn_fault(table) is_worn_fault(table,value) shift_table(k,sums,shift) "
            "leaves_apart(ingredients,one,other)",
    "groupings": "is_grouping(labels,value) grouping_of(labels,pairs) is_finer(one,other) joined(one,other) "
                 "met(one,other) classes_of(grouping) clash(table,grouping)",
    "mending": "mends(table,grouping) mended(table) is_mending(table,value) mended_table(table)",
    "forcing": "forced(table,one,other) is_forced_evidence(table,one,other,value)",
    "telling": "told_by_mixture(table,some) is_told_evidence(table,some,value) told_sets(table)",
    "quotients": "coarsest(table,answers) parted(table,answers,one,other) mendings(table)",
    "yard": "Yard(table,naming)",
    "sheets": "sheet_holds(value) sheet(kind,question) wrong_sheets(values)",
    "desk": "Desk()",
}
# The methods that the interface lists for each class, with their arguments.
METHODS = {
    Table: "blend(cups)",
    Oracle: "case_answer(case) mixture_answer(mixture)",
    Chain: "mixture_after(index) jump_at(index)",
    Search: "halved(is_like_low)",
    Rack: "blend(cups) __eq__(other)",
    Likenesses: "__eq__(other) __len__()",
    Yard: "__len__() vats() bring(ingredient) blend(vats) pour(vat) label(vat) mixture(vat) recipe(vat) stock() "
          "relabel(table,naming) groups() unlike() undo() within(work)",
    Desk: "say(command)",
}
ERRORS = (
    "InvalidBowl InvalidRecipe InvalidMixture InvalidTable InvalidNaming InvalidForm InvalidQuestion InvalidPrices "
    "InvalidPair InvalidText NotFaithful Refused InvalidCommand"
).split()


def words_of(text):
    return text.split(",") if text else []


class InterfaceTest(unittest.TestCase):
    def test_functions_and_classes(self):
        for name, told in INTERFACE.items():
            module = importlib.import_module(f"mixlabels.{name}")
            for word in told.split():
                called, rest = word[:-1].split("(")
                thing = getattr(module, called)
                self.assertEqual(thing.__module__, f"mixlabels.{name}")
                self.assertEqual(list(inspect.signature(thing).parameters), words_of(rest), word)

    def test_methods_stand_in_their_class(self):
        for kind, methods in METHODS.items():
            for word in methods.split():
                name, rest = word[:-1].split("(")
                self.assertEqual(list(inspect.signature(vars(kind)[name]).parameters), ["self"] + words_of(rest))


class ErrorsTest(unittest.TestCase):
    def test_classes(self):
        self.assertEqual(errors.MixError.__bases__, (ValueError,))
        for name in ERRORS:
            kind = getattr(errors, name)
            self.assertEqual(kind.__bases__, (errors.MixError,), name)
            self.assertEqual(kind.__module__, "mixlabels.errors")

    def test_at_is_kept(self):
        for name in ERRORS[:-1]:
            kind = getattr(errors, name)
            for value in (0, 7, 10 ** 40, None, "text", (1, 2), [1], True, {}):
                self.assertEqual(kind(value).at, value)
                self.assertEqual(kind(at=value).at, value)
            kept = [1]
            self.assertIs(kind(kept).at, kept)

    def test_command_has_no_argument(self):
        with self.assertRaises(errors.MixError):
            raise errors.InvalidCommand()


if __name__ == "__main__":
    unittest.main()
