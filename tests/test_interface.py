"""The interface: each name stands in its file, with its arguments."""
import importlib
import inspect
import unittest

FUNCTIONS = {
    "widths": "is_whole(thing, low=None, high=None); is_sequence(thing); check_widths(widths)",
    "stores": "is_value(thing); check_row(widths, row); check_store(widths, rows); store_values(store)",
    "questions": "is_name(thing); is_term(thing); check_question(widths, question); check_union(widths, union); "
                 "names_of(question); question_values(question); union_values(union); head_length(union); "
                 "keeps_pairs(question, reading); check_reading(question, reading); filled(terms, names, reading)",
    "asking": "rows_of(question, reading); answer_of(question, reading); readings(question, store); "
              "count_readings(question, store); answers(union, store); counted(question, store); "
              "union_readings(union, store)",
    "along": "renamed_store(store, moves); renamed_union(union, moves); with_names(question, letters)",
}
GENERATORS = ("asking.readings", "asking.union_readings")


def told_of(function):
    """Return how the interface would tell a function."""
    return f"{function.__name__}{inspect.signature(function)}"


class Interface(unittest.TestCase):
    def test_functions(self):
        for module, told in FUNCTIONS.items():
            found = importlib.import_module(f"meetwhere.{module}")
            for line in told.split("; "):
                function = getattr(found, line.split("(")[0])
                self.assertEqual(told_of(function), line)
                self.assertEqual(function.__module__, found.__name__, line)

    def test_generators(self):
        for told in GENERATORS:
            module, name = told.split(".")
            self.assertTrue(inspect.isgeneratorfunction(getattr(importlib.import_module(f"meetwhere.{module}"), name)))
