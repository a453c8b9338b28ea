import importlib
import inspect
import unittest

FUNCTIONS = {
    "words": {
        "is_integer": "(thing)", "is_column": "(thing)", "are_columns": "(thing)", "is_question": "(thing)",
        "is_index": "(thing)", "is_weight": "(thing)",
    },
    "questions": {
        "asking": "(*columns, last='')", "columns_of": "(question)", "width": "(question)",
        "is_plain": "(question)", "is_below": "(one, other)", "can_share": "(one, other)",
        "split_pair": "(questions)",
    },
    "indexes": {
        "serves": "(index, question)", "first_fault": "(index, question)", "questions_of": "(index)",
        "index_for": "(questions)",
    },
    "serving": {
        "is_served": "(shelf, question)", "place_of": "(shelf, question)", "faults": "(shelf, question)",
        "places": "(shelf, asked)", "idle": "(shelf, asked)", "droppable": "(shelf, asked)",
        "unserved": "(shelf, asked)",
    },
    "families": {"served": "(shelf)", "served_pairs": "(shelf)", "count_served": "(shelf)"},
    "forced": {
        "forces": "(one, other)", "forced": "(question)", "implied": "(asked)", "why_implied": "(asked, question)",
    },
    "compared": {
        "covers": "(one, other)", "alike": "(one, other)", "parting": "(one, other)", "needless": "(shelf)",
        "pruned": "(shelf)",
    },
    "layers": {
        "most_served": "(asked)", "longest": "(asked)", "layers": "(asked)", "is_longest": "(asked, thing)",
        "is_layers": "(asked, thing)",
    },
    "fewest": {
        "fewest": "(asked)", "fewest_shelf": "(asked)", "apart": "(asked)", "is_fewest": "(asked, thing)",
        "is_apart": "(asked, thing)",
    },
    "orders": {
        "count_orders": "(questions)", "order_at": "(questions, number)", "order_number": "(questions, index)",
    },
    "levels": {
        "levels": "(asked, *, weights=None)", "least_cost": "(asked, *, weights=None)",
        "apart_from": "(asked, level, *, weights=None)",
    },
    "narrow": {
        "cost": "(shelf, *, weights=None)", "narrow_shelf": "(asked, *, weights=None)",
        "narrow_paper": "(asked, *, weights=None)", "is_narrow": "(asked, thing, *, weights=None)",
        "is_narrow_paper": "(asked, thing, *, weights=None)",
    },
    "wholes": {
        "whole_range": "(asked, columns, *, weights=None)", "sure_wholes": "(asked, *, weights=None)",
        "maybe_wholes": "(asked, *, weights=None)", "shelf_with": "(asked, columns, many, *, weights=None)",
    },
    "changes": {
        "added": "(asked, question, *, weights=None)", "saved": "(asked, question, *, weights=None)",
    },
    "everything": {
        "all_questions": "(columns, *, plain=False)", "fewest_for": "(many, *, plain=False)",
        "width_for": "(many, *, plain=False)", "levels_for": "(many, *, plain=False)",
    },
    "standing": {
        "least_more": "(asked, standing, *, weights=None)", "more_shelf": "(asked, standing, *, weights=None)",
        "is_more": "(asked, standing, thing, *, weights=None)",
    },
    "longer": {
        "least_added": "(asked, standing, *, weights=None)", "led_on": "(asked, standing, *, weights=None)",
        "led_paper": "(asked, standing, *, weights=None)",
        "is_led_on": "(asked, standing, thing, *, weights=None)",
        "is_led_paper": "(asked, standing, thing, *, weights=None)",
    },
    "short": {
        "least_alike": "(shelf, *, weights=None)", "short_alike": "(shelf, *, weights=None)",
        "short_paper": "(shelf, *, weights=None)", "is_short": "(shelf, thing, *, weights=None)",
        "is_short_paper": "(shelf, thing, *, weights=None)",
    },
    "notation": {
        "show_question": "(question)", "show_index": "(index)", "show_asked": "(asked)", "show_shelf": "(shelf)",
        "show_weights": "(weights)",
    },
    "readers": {
        "read_question": "(text)", "read_index": "(text)", "read_asked": "(text)", "read_shelf": "(text)",
        "read_weights": "(text)",
    },
}

METHODS = {
    ("asked", "Asked"): {
        "__init__": "(self, questions)", "__eq__": None, "__or__": None, "__and__": None, "__sub__": None,
        "__len__": None, "__contains__": None, "__iter__": None, "questions": "(self)", "columns": "(self)",
        "within": "(self, other)", "with_question": "(self, question)", "without": "(self, question)",
        "renamed": "(self, names)",
    },
    ("shelves", "Shelf"): {
        "__init__": "(self, indexes)", "__eq__": None, "__add__": None, "__len__": None, "__contains__": None,
        "__iter__": None, "__getitem__": None, "indexes": "(self)", "columns": "(self)",
        "with_index": "(self, index)", "without": "(self, number)", "renamed": "(self, names)",
    },
    ("lots", "Lot"): {
        "__init__": "(self, weights, pairs)", "__eq__": None, "__len__": None, "weights": "(self)",
        "pairs": "(self)", "levels": "(self)", "chains": "(self)", "apart_from": "(self, level)",
        "is_above": "(self, high, low)", "is_chains": "(self, thing)", "is_paper": "(self, thing)",
        "width": "(self)", "least_sum": "(self)", "paper": "(self)",
    },
    ("weights", "Weights"): {
        "__init__": "(self, table)", "__eq__": None, "__getitem__": None, "__setitem__": None,
        "__call__": "(self, thing)", "table": "(self)", "copied": "(self)",
    },
    ("advisor", "Advisor"): {
        "__init__": "(self, asked, shelf)", "__eq__": None, "__len__": None, "weights": "(self)", "unserved": "(self)",
        "advice": "(self)", "deeds": "(self)", "do": "(self, deed)", "back": "(self)", "again": "(self)",
        "past": "(self, many)", "copied": "(self)", "trial": "(self, act)",
    },
    ("desk", "Desk"): {"__init__": "(self)", "execute": "(self, line)"},
}

ERRORS = {
    "Wrong": "(place)", "Apart": "(pair)", "TooMany": "(limit)", "NoQuestion": "(question)",
    "NoNumber": "(number)", "Unserved": "(question)", "NoOrder": "(pair)", "NoColumn": "(column)",
    "Full": "(limit)", "Refused": "(deed)", "NoEntry": "(many)",
}


class InterfaceTest(unittest.TestCase):
    def test_functions_stand_in_their_files(self):
        for name, functions in FUNCTIONS.items():
            module = importlib.import_module(f"narrowkeys.{name}")
            for function, signature in functions.items():
                found = getattr(module, function)
                self.assertEqual(f"narrowkeys.{name}", found.__module__)
                self.assertEqual(signature, str(inspect.signature(found)), function)

    def test_methods_stand_in_their_classes(self):
        for (name, kind), methods in METHODS.items():
            found = getattr(importlib.import_module(f"narrowkeys.{name}"), kind)
            self.assertEqual(f"narrowkeys.{name}", found.__module__)
            for method, signature in methods.items():
                self.assertIn(method, vars(found))
                if signature is not None:
                    self.assertEqual(signature, str(inspect.signature(vars(found)[method])), method)

    def test_the_properties_and_the_class_value_of_an_advisor(self):
        found = vars(importlib.import_module("narrowkeys.advisor").Advisor)
        self.assertEqual([property, property], [type(found["asked"]), type(found["shelf"])])
        self.assertEqual([200, int], [found["MOST"], type(found["MOST"])])

    def test_errors_take_their_arguments(self):
        module = importlib.import_module("narrowkeys.errors")
        for name, signature in ERRORS.items():
            self.assertEqual(signature, str(inspect.signature(getattr(module, name))), name)


if __name__ == "__main__":
    unittest.main()
