"""The interface: each name stands in its file, with its arguments."""
import importlib
import inspect
import unittest

FUNCTIONS = {
    "widths": "is_whole(thing, low=None, high=None); is_sequence(thing); check_widths(widths)",
    "stores": "is_value(thing); check_row(widths, row); check_store(widths, rows); store_values(store)",
    "questions": "is_name(thing); is_term(thing); check_question(widths, question); check_union(widths, union); "
                 "names_of(question); question_values(question); union_values(union); head_length(union); "
                 "keeps_pairs(question, reading); check_reading(question, reading); filled(terms, names, reading)",
    "asking": "rows_of(question, reading); answer_of(question, reading); readings(question, store); "
              "count_readings(question, store); answers(union, store); counted(question, store); "
              "union_readings(union, store)",
    "along": "renamed_store(store, moves); renamed_union(union, moves); with_names(question, letters)",
    "storetext": "row_text(row); store_text(store); read_store(widths, text)",
    "questiontext": "question_text(question); union_text(union); read_union(widths, text)",
    "cases": "check_told(union, told); layings(names, known, modulus); all_cases(question, sorts, told); "
             "count_cases(question, sorts, told); shape_of(question, reading, sorts, told)",
    "leastness": "lesser_reading(union, index, reading); is_least(union, index, reading); "
                 "least_cases(union, sorts, told); least_rows(union, store, answer); needed_kinds(union, sorts)",
    "within": "is_within(widths, union, other); outside_fault(widths, union, other, outside); "
              "are_alike(widths, union, other); least_form(widths, question)",
}
CLASSES = {
    "sorts": {"Sorts": "__init__(self, named, modulus); sort_of(self, value); kind_of(self, row); "
                       "value_of(self, sort, number, avoided=()); __eq__(self, other)"},
    "within": {"Outside": "__init__(self, index, reading); __eq__(self, other)"},
}
GENERATORS = ("asking.readings", "asking.union_readings", "cases.all_cases", "leastness.least_cases")


def told_of(function):
    """Return how the interface would tell a function."""
    return f"{function.__name__}{inspect.signature(function)}"


class Interface(unittest.TestCase):
    def test_functions(self):
        for module, told in FUNCTIONS.items():
            found = importlib.import_module(f"meetwhere.{module}")
            for line in told.split("; "):
                function = getattr(found, line.split("(")[0])
                self.assertEqual(told_of(function), line)
                self.assertEqual(function.__module__, found.__name__, line)

    def test_classes(self):
        for module, classes in CLASSES.items():
            found = importlib.import_module(f"meetwhere.{module}")
            for name, told in classes.items():
                made = vars(found)[name]
                self.assertEqual(made.__module__, found.__name__, name)
                for line in told.split("; "):
                    method = vars(made)[line.split("(")[0]]
                    self.assertEqual(told_of(method), line)

    def test_property(self):
        self.assertIsInstance(vars(importlib.import_module("meetwhere.sorts").Sorts)["many"], property)

    def test_generators(self):
        for told in GENERATORS:
            module, name = told.split(".")
            self.assertTrue(inspect.isgeneratorfunction(getattr(importlib.import_module(f"meetwhere.{module}"), name)))
