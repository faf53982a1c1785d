"""[0.4] to [0.7], [1.4], [1.5] and [1.6]: names, terms, questions, unions, values for names."""
import unittest

from meetwhere.errors import BadQuestion, BadReading, BadUnion, BadWidths
from meetwhere.questions import (check_question, check_reading, check_union, filled, head_length, is_name, is_term,
                                 keeps_pairs, names_of, question_values, union_values)
from tests import plain
from tests.plain import GREATEST, NO_SEQUENCES, NO_VALUES, fault, unchanged

WIDTHS = (1, 2)
GOOD = (("a", 5), ((1, ("a", "b")), (0, ("b",))), (("a", "b"),))
ATOM = (1, ("a", "b"))

WRONG_ATOMS = tuple([(thing, "atom") for thing in NO_SEQUENCES]) + (
    ((), "atom"), ((0,), "atom"), ((0, ("a",), 1), "atom"), ((True, ("a",)), "atom"), (("0", ("a",)), "atom"),
    ((0, "a"), "atom"), ((0, {"a"}), "atom"), ((9, "a"), "atom"), ((None, (True, True)), "atom"),
    ((2, ("a",)), "table"), ((-1, ("a",)), "table"), ((6, (True, True)), "table"),
    ((0, ()), "width"), ((0, ("a", "b")), "width"), ((1, ("a",)), "width"), ((0, (True, "z")), "width"),
) + tuple([((1, ("a", thing)), "term") for thing in NO_VALUES if thing != "a"]) + (
    ((0, ("i",)), "term"), ((0, ("A",)), "term"), ((0, ("ab",)), "term"), ((0, ("",)), "term"), ((0, ("1",)), "term"))

# No value, and no name of a body with the names a and b alone.
NO_TERMS = tuple([thing for thing in NO_VALUES if thing != "a"]) + ("c", "h", "i", "ab", "", "A", ("a",), ["a"])


class Terms(unittest.TestCase):
    def test_names(self):
        for letter in plain.NAMES:
            self.assertIs(is_name(letter), True)
        for thing in plain.ODD_THINGS + ("i", "A", "ab", "abcdefgh", "", " a", ("a",), ["a"], 5, b"a"):
            self.assertIs(is_name(thing), False)

    def test_terms(self):
        for thing in ("a", "h", 0, 5, GREATEST):
            self.assertIs(is_term(thing), True)
        for thing in ("i", "", "ab", -1, GREATEST + 1, True, False, 1.0, None, ("a",), [], {}):
            self.assertIs(is_term(thing), False)


class Questions(unittest.TestCase):
    def test_right_ones_become_tuples(self):
        right = (GOOD, ((), ((0, (3,)),), ()), (("a", "a", "a"), ((0, ("a",)),) * 8, ((0, 0),) * 8),
                 ((0, GREATEST), ((1, ("h", "h")),), (("h", "h"), (5, 5), (4, "h"))))
        for question in right:
            self.assertEqual(check_question(WIDTHS, question), question)
            self.assertEqual(unchanged(self, check_question, WIDTHS, question), question)

    def test_form(self):
        for thing in NO_SEQUENCES + ((), GOOD[:2], GOOD + ((),), [None] * 4):
            self.assertEqual(fault(BadQuestion, check_question, WIDTHS, thing), ("form", 0))

    def test_body(self):
        for body in NO_SEQUENCES + ((), [], (ATOM,) * 9, [None] * 9):
            self.assertEqual(fault(BadQuestion, check_question, WIDTHS, (None, body, None)), ("body", 0))

    def test_bodies_of_one_and_eight_atoms(self):
        for many in (1, 8):
            question = ((), (ATOM,) * many, ())
            self.assertEqual(check_question(WIDTHS, question), question)

    def test_words_of_atoms_with_the_index_of_the_first(self):
        for atom, what in WRONG_ATOMS:
            for ahead in (0, 3, 7):
                body = (ATOM,) * ahead + (atom,) + (None,) * (7 - ahead)
                self.assertEqual(fault(BadQuestion, check_question, WIDTHS, (9, body, 9)), (what, ahead), atom)

    def test_heads(self):
        for many in (0, 3):
            question = (("b",) * many, (ATOM,), ())
            self.assertEqual(check_question(WIDTHS, question), question)
        for head in NO_SEQUENCES + (("a",) * 4, ("z",) * 4):
            self.assertEqual(fault(BadQuestion, check_question, WIDTHS, (head, (ATOM,), None)), ("head", 0))
        for thing in NO_TERMS:
            question = (("a", 1, thing), (ATOM,), None)
            self.assertEqual(fault(BadQuestion, check_question, WIDTHS, question), ("head", 2), thing)
            question = ((thing, thing), (ATOM,), ())
            self.assertEqual(fault(BadQuestion, check_question, WIDTHS, question), ("head", 0), thing)

    def test_pairs(self):
        for many in (0, 8):
            question = ((), (ATOM,), (("a", 3),) * many)
            self.assertEqual(check_question(WIDTHS, question), question)
        for pairs in NO_SEQUENCES + ((("a", "b"),) * 9, [None] * 9):
            self.assertEqual(fault(BadQuestion, check_question, WIDTHS, ((), (ATOM,), pairs)), ("unlike", 0))
        wrong = [("a", thing) for thing in NO_TERMS] + [[thing, "a"] for thing in NO_TERMS] + list(NO_SEQUENCES)
        for pair in wrong + [(), ("a",), ("a", "b", "a"), "ab"]:
            question = ((), (ATOM,), (("a", "b"), pair, None))
            self.assertEqual(fault(BadQuestion, check_question, WIDTHS, question), ("unlike", 1), pair)

    def test_the_order_of_the_words(self):
        self.assertEqual(fault(BadWidths, check_question, (0,), None), (0,))
        self.assertEqual(fault(BadQuestion, check_question, WIDTHS, (("z",), ((9, ()),), (3,))), ("table", 0))
        self.assertEqual(fault(BadQuestion, check_question, WIDTHS, (("z",), (ATOM,), (3,))), ("head", 0))


class Unions(unittest.TestCase):
    def test_right_ones_become_tuples(self):
        for union in ((), (GOOD,), (GOOD,) * 6, (GOOD, ((1, 2), (ATOM,), ())), (((), (ATOM,), ()),) * 2):
            self.assertEqual(check_union(WIDTHS, union), union)
            self.assertEqual(unchanged(self, check_union, WIDTHS, union), union)

    def test_many(self):
        for thing in NO_SEQUENCES + ((GOOD,) * 7, [None] * 7):
            self.assertEqual(fault(BadUnion, check_union, WIDTHS, thing), ("many", 0))

    def test_questions_come_ahead_of_heads(self):
        short = ((), (ATOM,), ())
        self.assertEqual(fault(BadUnion, check_union, WIDTHS, (GOOD, GOOD, short, GOOD, short)), ("heads", 2))
        self.assertEqual(fault(BadUnion, check_union, WIDTHS, (short, GOOD)), ("heads", 1))
        self.assertEqual(fault(BadQuestion, check_union, WIDTHS, (GOOD, short, None)), ("form", 0))
        wrong = ((), (ATOM, ATOM, (0, (True,))), ())
        self.assertEqual(fault(BadQuestion, check_union, WIDTHS, [GOOD, wrong, short]), ("term", 2))

    def test_widths_come_first(self):
        self.assertEqual(fault(BadWidths, check_union, (1, True), None), (1,))


class Parts(unittest.TestCase):
    def test_names_in_the_order_of_the_body(self):
        self.assertEqual(names_of((("a",), ((1, ("h", 3)), (1, ("a", "h")), (0, ("c",))), ())), ("h", "a", "c"))
        self.assertEqual(names_of(((1,), ((0, (2,)),), ((1, 2),))), ())
        for number in range(40):
            question = plain.some_question(number, (1, 2, 3), 3, 8, 8)
            self.assertEqual(names_of(question), tuple(plain.names_of(question)))

    def test_values_of_head_body_and_pairs(self):
        question = (("a", 9), ((1, ("a", 4)), (0, (0,))), ((4, "a"), (7, 7)))
        self.assertEqual(question_values(question), (0, 4, 7, 9))
        self.assertEqual(question_values(GOOD), (5,))
        self.assertEqual(question_values(((), (ATOM,), ())), ())
        self.assertEqual(union_values((question, ((5, 5), (ATOM,), ((2, "a"),)))), (0, 2, 4, 5, 7, 9))
        self.assertEqual(union_values(()), ())

    def test_head_length(self):
        self.assertIsNone(head_length(()))
        for many in range(4):
            self.assertEqual(head_length(((("a",) * many, (ATOM,), ()),) * 2), many)

    def test_filled(self):
        self.assertEqual(filled(("b", 7, "a", "b"), ("a", "b"), (1, 2)), (2, 7, 1, 2))
        self.assertEqual(filled((), ("a",), (1,)), ())
        self.assertEqual(filled((3, 4), (), ()), (3, 4))
        self.assertEqual(unchanged(self, filled, ("a", "c"), ("c", "a"), (0, 9)), (9, 0))


class Readings(unittest.TestCase):
    def test_pairs_are_kept_or_not(self):
        question = ((), ((1, ("a", "b")),), (("a", "b"), ("b", 3)))
        for reading, right in (((1, 2), True), ((2, 2), False), ((1, 3), False), ((3, 1), True)):
            self.assertIs(keeps_pairs(question, reading), right)
        for pair, right in (((4, 4), False), (("a", "a"), False), ((4, 5), True)):
            self.assertIs(keeps_pairs(((), ((0, ("a",)),), (pair,)), (1,)), right)
        self.assertIs(keeps_pairs(((), ((0, (1,)),), ()), ()), True)
        self.assertIs(keeps_pairs(((), ((0, (1,)),), ((2, 2),)), ()), False)

    def test_right_readings_become_tuples(self):
        question = ((), ((1, ("a", "b")),), (("a", "b"), ("b", 3)))
        self.assertEqual(check_reading(question, (0, GREATEST)), (0, GREATEST))
        self.assertEqual(unchanged(self, check_reading, question, (3, 1)), (3, 1))
        self.assertEqual(check_reading(question, [7, 8]), (7, 8))
        self.assertEqual(check_reading(((), ((0, (1,)),), ()), ()), ())

    def test_wrong_readings(self):
        question = ((), ((1, ("a", "b")),), (("a", "b"), ("b", 3)))
        for thing in NO_SEQUENCES + ((), (1,), (1, 2, 4), (2, 2), (1, 3), (True, 2), (1, None)):
            self.assertEqual(fault(BadReading, check_reading, question, thing), (thing,))
        for thing in NO_VALUES:
            if not isinstance(thing, list):
                self.assertEqual(fault(BadReading, check_reading, question, (7, thing)), ((7, thing),))
        self.assertEqual(fault(BadReading, check_reading, ((), ((0, (1,)),), ((2, 2),)), ()), ((),))

    def test_a_list_in_the_error_is_not_kept(self):
        reading = [1, 1]
        with self.assertRaises(BadReading) as caught:
            check_reading(((), ((1, ("a", "b")),), (("a", "b"),)), reading)
        reading.clear()
        self.assertEqual(tuple(caught.exception.reading), (1, 1))
