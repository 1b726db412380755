"""[27]: the errors, and the names and arguments of what stands in the interface."""

import importlib
import inspect
import unittest

from eatenorders import errors

BASES = {"NoPiece": LookupError, "NothingDone": LookupError, "BadText": ValueError, "Broken": ValueError,
         "CanNot": ValueError, "TooMany": ValueError, "Unfit": ValueError}

BRACKETS = {"NoPiece": ["piece"], "NothingDone": [], "BadText": ["line"], "Broken": ["number"],
            "CanNot": [], "TooMany": [], "Unfit": []}

INTERFACE = {
    "signs": {"words": "text", "text_of": "words", "number_of": "word", "word_of": "number"},
    "orders": {"is_order": "thing", "is_piece": "order thing", "by_pairs": "many pairs", "pairs_of": "order",
               "is_under": "order piece other", "under": "order piece", "above": "order piece",
               "beside_of": "order piece", "least_pieces": "order", "greatest_pieces": "order",
               "part": "order pieces", "levels": "order", "height": "order", "knots": "order"},
    "making": {"chain": "many", "loose": "many", "side_by_side": "order other", "stacked": "order other",
               "turned": "order", "divisors": "number", "tree": "parents", "bar": "high wide", "layered": "sizes"},
    "bites": {"is_left": "order thing", "is_play": "order thing", "bite_at": "order left piece",
              "bitten": "order left piece", "after_bites": "order left", "left_behind": "order play",
              "first_flaw": "order pieces", "lefts": "order", "how_many_lefts": "order", "left_number": "order left",
              "left_at": "order number", "fewest_bites": "order left other",
              "bites_between": "order left other number"},
    "alike": {"is_numbering": "order thing", "renumbered": "order pieces", "how_many_numberings": "order",
              "least_form": "order", "how_many_forms": "order", "are_alike": "order other",
              "automorphisms": "order", "is_automorphism": "order thing"},
    "worths": {"worth": "order", "set_of_worths": "order", "worth_left": "order left", "set_left": "order left",
               "is_won": "order left", "bites_to": "order left number", "winning_bites": "order left",
               "winning_bite": "order left", "is_winning_bite": "order left thing", "lost_lefts": "order",
               "by_worth": "order"},
    "sums": {"sum_worth": "orders", "sum_left": "orders lefts", "winning_spots": "orders lefts",
             "winning_spot": "orders lefts", "is_winning_spot": "orders lefts thing",
             "are_balanced": "orders others", "balance": "orders", "behind_spot": "orders lefts number piece",
             "answer_spot": "orders lefts number piece", "is_answer_spot": "orders lefts number piece thing"},
    "sets": {"lacking": "worths number", "place_of": "worths number", "worth_by_set": "worths",
             "set_stacked": "worths other", "set_beside": "worths other", "set_off": "whole worths",
             "first_unlike": "worths other", "set_of_many": "worths many"},
    "terms": {"is_term": "thing", "size_of": "term", "term_of": "order", "order_of": "term", "an_n": "order",
              "is_n": "order thing", "set_of_term": "term", "worth_of_term": "term", "turned_term": "term",
              "are_alike_terms": "term other", "how_many_terms": "many"},
    "modules": {"is_module": "order thing", "modules": "order", "how_many_modules": "order",
                "module_around": "order pieces", "are_crossing": "order module other",
                "crossed": "order module other", "how_they_lie": "order module other", "strong_modules": "order",
                "is_cut": "order thing", "quotient": "order cut", "top_cut": "order"},
    "primes": {"tree_of": "order", "is_tree": "thing", "order_by_tree": "tree", "is_prime": "order",
               "prime_parts": "order", "widest_prime": "order", "tree_depth": "order", "strong_with": "order piece",
               "meeting": "order piece other", "prime_less": "order"},
    "companies": {"is_company": "thing", "put_in": "company order", "places_put": "company order",
                  "nested": "company other", "taken_out": "order module", "inside": "order module",
                  "companies": "order"},
    "great": {"great_set": "order", "great_worth": "order", "great_left": "order left", "great_after": "order piece",
              "great_bites": "order", "great_bite": "order"},
    "exchange": {"same_everywhere": "order other", "parting": "order other", "is_parting": "order other thing",
                 "parting_company": "order other", "parted_by": "company order other",
                 "exchanged": "order module other", "may_exchange": "order module other"},
    "papers": {"answers": "order left", "least_answers": "order left", "is_answers": "order left thing",
               "paper_of": "order left", "is_paper": "order left thing", "unanswered": "order left pairs",
               "needless": "order left pairs", "are_replies": "order thing"},
    "replies": {"replies": "order play", "reply": "order play", "is_reply": "order play thing",
                "how_many_plays": "order left", "plays_by_length": "order left", "plays_won": "order left",
                "play_drawn": "order number", "play_number": "order play", "hurried": "order left",
                "dragged": "order left", "hurrying": "order left", "dragging": "order left"},
    "least": {"orders_of": "many", "all_sets": "many", "sets_counted": "many", "worths_counted": "many",
              "with_set": "worths many", "least_with": "worths", "is_least_with": "worths thing"},
    "mirrors": {"mirrors": "order", "is_mirror": "order thing", "stays": "order mirror", "moved_pairs": "order mirror",
                "staying_order": "order mirror", "is_even": "order mirror left",
                "mirror_reply": "order mirror left piece", "mirror_left": "order mirror left piece",
                "worth_by_mirror": "order mirror", "fewest_stay": "order", "best_mirror": "order",
                "is_best_mirror": "order thing", "top": "order", "bottom": "order", "worth_by_bottom": "order"},
    "texts": {"is_sheet": "thing", "sheet_text": "sheet", "read_sheet": "text", "order_text": "order",
              "read_order": "text", "picture": "order", "read_picture": "text"},
    "lastloses": {"last_won": "order left", "last_bites": "order left", "last_lost_lefts": "order",
                  "turned_lefts": "order", "last_answers": "order left", "is_last_answers": "order left thing",
                  "last_paper": "order left", "is_last_paper": "order left thing", "without_least": "order"},
    "changes": {"piece_more": "order pieces", "piece_less": "order piece", "can_more": "order",
                "pair_more": "order low high", "pair_less": "order low high", "changed": "order changes",
                "unlike_pairs": "order other", "changes_between": "order other",
                "is_changes_between": "order other thing", "worths_less": "order", "idle_pieces": "order",
                "idle_ties": "order"},
    "judge": {"is_demand": "thing", "is_so": "demand", "paper_against": "demand", "is_paper_against": "demand thing",
              "reason_for": "demand", "is_reason_for": "demand thing", "first_fallen": "demands"},
}

# The one class, with the arguments of its methods.
DESK = {"__init__": "self order", "say": "self text", "order": "self", "play": "self", "left": "self", "undo": "self",
        "redo": "self", "twin": "self", "__eq__": "self other"}


class Errors(unittest.TestCase):

    def test_each_is_a_direct_subclass_of_one_class(self):
        for name, base in BASES.items():
            own = getattr(errors, name)
            self.assertEqual(own.__bases__, (base,), name)
            self.assertEqual(own.__module__, "eatenorders.errors", name)

    def test_each_keeps_what_its_constructor_takes(self):
        for name, told in BRACKETS.items():
            own = getattr(errors, name)
            for worth in (7, (0, 2), None):
                by_place = own(*[worth for _ in told])
                by_name = own(**{attribute: worth for attribute in told})
                for attribute in told:
                    self.assertEqual(getattr(by_place, attribute), worth)
                    self.assertEqual(getattr(by_name, attribute), worth)

    def test_each_takes_just_what_stands_in_its_brackets(self):
        for name, told in BRACKETS.items():
            own = getattr(errors, name)
            if told:
                self.assertEqual(list(inspect.signature(own).parameters), told)
                self.assertRaises(TypeError, own)
                self.assertRaises(TypeError, own, 1, 2)

    def test_each_can_be_raised_and_caught_by_its_own_name_alone(self):
        for name, told in BRACKETS.items():
            own = getattr(errors, name)
            others = tuple(getattr(errors, other) for other in BRACKETS if other != name)
            error = own(*[3 for _ in told])
            self.assertIsInstance(error, own)
            self.assertNotIsInstance(error, others)


class Interface(unittest.TestCase):

    def test_each_function_is_defined_in_its_file(self):
        for name, told in INTERFACE.items():
            module = importlib.import_module("eatenorders." + name)
            for function in told:
                self.assertTrue(inspect.isfunction(getattr(module, function)), function)
                self.assertEqual(getattr(module, function).__module__, "eatenorders." + name)
                self.assertEqual(getattr(module, function).__name__, function)

    def test_each_function_has_the_arguments_of_the_document(self):
        for name, told in INTERFACE.items():
            module = importlib.import_module("eatenorders." + name)
            for function, arguments in told.items():
                own = inspect.signature(getattr(module, function)).parameters
                self.assertEqual(list(own), arguments.split(), function)
                self.assertEqual([one.default for one in own.values()], [inspect.Parameter.empty] * len(own))
                self.assertEqual({one.kind for one in own.values()}, {inspect.Parameter.POSITIONAL_OR_KEYWORD})

    def test_the_desk_is_defined_in_its_file_with_its_methods(self):
        own = importlib.import_module("eatenorders.desk").Desk
        self.assertTrue(inspect.isclass(own))
        self.assertEqual((own.__module__, own.__name__), ("eatenorders.desk", "Desk"))
        for name, arguments in DESK.items():
            self.assertTrue(inspect.isfunction(vars(own)[name]), name)
            self.assertEqual(list(inspect.signature(vars(own)[name]).parameters), arguments.split(), name)


if __name__ == "__main__":
    unittest.main()
