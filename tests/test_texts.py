"""[1.9], [1.10]: texts of rows, stores, questions and unions, written and read back."""
import random
import re
import unittest

from meetwhere.errors import BadQuestion, BadStore, BadText, BadUnion, BadWidths
from meetwhere.questiontext import question_text, read_union, union_text
from meetwhere.storetext import read_store, row_text, store_text
from tests import plain
from tests.plain import GREATEST, ODD_THINGS, fault

WIDTHS = (1, 2, 3, 1, 2, 3)
UNION_TEXT = "(a, 5) by 0(a, b), 1(b) with a not b or (a, a) by 1(a)"
UNION = ((("a", 5), ((0, ("a", "b")), (1, ("b",))), (("a", "b"),)), (("a", "a"), ((1, ("a",)),), ()))

NUMBER = "(0|[1-9][0-9]{0,8}|1000000000)"
TERM = f"([a-h]|{NUMBER})"
ROWS = f"[0-5]\\({NUMBER}(, {NUMBER})*\\)"
ATOM = f"[0-5]\\({TERM}(, {TERM})*\\)"
PAIR = f"{TERM} not {TERM}"
ASKED = f"\\(({TERM}(, {TERM})*)?\\) by {ATOM}(, {ATOM})*( with {PAIR}(, {PAIR})*)?"
STORE_FORM = re.compile(f"empty|{ROWS}(; {ROWS})*")
UNION_FORM = re.compile(f"nothing|{ASKED}( or {ASKED})*")

# Whatever is the beginning of a text of the form becomes one with one of these ends of texts.
STORE_ENDS = ("empty", "0(1, 1); 0(1)", "0(1)")
UNION_ENDS = ("nothing", "(a, a) by 0(a, a), 0(a) with a not a, a not a or (a) by 0(a)", "() by 0(a) or () by 0(a)")


def place_in(form, ends, text):
    """Return the length of the longest beginning of a text that some end makes a text of the form."""
    tails = [end[at:] for end in ends for at in range(len(end) + 1)]
    for long in range(len(text), -1, -1):
        if any(form.fullmatch(text[:long] + tail) for tail in tails):
            return long
    raise AssertionError


def spoiled(number, text, signs):
    """Yield texts that differ a little from a text."""
    made = random.Random(number)
    for at in range(len(text) + 1):
        yield text[:at]
        yield text[:at] + text[at + 1:]
        for _ in range(4):
            sign = made.choice(signs)
            yield text[:at] + sign + text[at:]
            yield text[:at] + sign + text[at + 1:]


class Written(unittest.TestCase):
    def test_rows_atoms_and_kinds(self):
        self.assertEqual(row_text((0, (1, 2))), "0(1, 2)")
        self.assertEqual(row_text((5, (GREATEST,))), "5(1000000000)")
        self.assertEqual(row_text((3, ("a", 0, "h"))), "3(a, 0, h)")

    def test_stores(self):
        self.assertEqual(store_text(((0, (1, 2)), (1, (3,)))), "0(1, 2); 1(3)")
        self.assertEqual(store_text(((1, (3,)),)), "1(3)")
        self.assertEqual(store_text(()), "empty")

    def test_questions_and_unions(self):
        self.assertEqual(union_text(UNION), UNION_TEXT)
        self.assertEqual(question_text(UNION[1]), "(a, a) by 1(a)")
        self.assertEqual(question_text(((), ((0, (7,)),), (("a", 5), (5, 5)))), "() by 0(7) with a not 5, 5 not 5")
        self.assertEqual(union_text(()), "nothing")
        self.assertEqual(union_text(UNION[1:]), "(a, a) by 1(a)")


class ReadBack(unittest.TestCase):
    def test_examples(self):
        self.assertEqual(read_store((2, 1), "0(1, 2); 1(3)"), ((0, (1, 2)), (1, (3,))))
        self.assertEqual(read_union((2, 1), UNION_TEXT), UNION)
        self.assertEqual(read_store([2, 1], "empty"), ())
        self.assertEqual(read_union([2, 1], "nothing"), ())

    def test_what_was_written(self):
        for number in range(150):
            store = plain.some_store(number, WIDTHS, GREATEST, 60)
            self.assertEqual(read_store(WIDTHS, store_text(store)), store)
            union = plain.some_union(number, WIDTHS, GREATEST, 8, 8)
            self.assertEqual(read_union(WIDTHS, union_text(union)), union)

    def test_rows_in_any_order_and_twice(self):
        self.assertEqual(read_store((1, 1), "1(2); 0(9); 1(2); 0(1)"), ((0, (1,)), (0, (9,)), (1, (2,))))

    def test_the_widths_come_first(self):
        for read in (read_store, read_union):
            self.assertEqual(fault(BadWidths, read, (1, 0), None), (1,))
            self.assertEqual(fault(BadWidths, read, None, "x"), (0,))

    def test_texts_that_hold_too_much(self):
        row = "0(1)"
        self.assertEqual(read_store((1,), "; ".join([row] * 60)), ((0, (1,)),))
        self.assertEqual(fault(BadStore, read_store, (1,), "; ".join([row] * 61)), (0, "many"))
        self.assertEqual(fault(BadStore, read_store, (1,), "; ".join([row] * 900)), (0, "many"))
        self.assertEqual(fault(BadText, read_store, (1,), "; ".join([row] * 900) + "x"), (900 * 6 - 2,))
        for text, told in (("() by " + ", ".join([row] * 8), None), ("() by " + ", ".join([row] * 9), ("body", 0)),
                           ("() by " + ", ".join([row] * 900), ("body", 0)), ("(1, 1, 1) by 0(1)", None),
                           ("(1, 1, 1, 1) by 0(1)", ("head", 0)),
                           ("() by 0(1) with " + ", ".join(["1 not 2"] * 8), None),
                           ("() by 0(1) with " + ", ".join(["1 not 2"] * 9), ("unlike", 0))):
            if told is None:
                self.assertEqual(union_text(read_union((1,), text)), text)
            else:
                self.assertEqual(fault(BadQuestion, read_union, (1,), text), told)
        asked = "() by 0(1)"
        self.assertEqual(len(read_union((1,), " or ".join([asked] * 6))), 6)
        self.assertEqual(fault(BadUnion, read_union, (1,), " or ".join([asked] * 7)), ("many", 0))
        self.assertEqual(fault(BadUnion, read_union, (1,), " or ".join([asked] * 700)), ("many", 0))

    def test_what_the_checks_refuse(self):
        for text, told in (("0(1); 2(1)", (1, "table")), ("5(1)", (0, "table")), ("1(1, 2, 3)", (0, "width")),
                           ("0(1); 1(1)", (1, "width"))):
            self.assertEqual(fault(BadStore, read_store, (1, 2), text), told)
        for text, told in (("() by 0(a), 3(a)", ("table", 1)), ("() by 1(a)", ("width", 0)),
                           ("(b) by 0(a)", ("head", 0)), ("(a, 1, c) by 0(a)", ("head", 2)),
                           ("(a) by 0(a) with a not a, a not b", ("unlike", 1))):
            self.assertEqual(fault(BadQuestion, read_union, (1, 2), text), told)
        self.assertEqual(fault(BadUnion, read_union, (1,), "() by 0(a) or (a) by 0(a)"), ("heads", 1))


class Places(unittest.TestCase):
    def test_things_that_are_no_text(self):
        for thing in ODD_THINGS + ((), [], 5, ["empty"]):
            if not isinstance(thing, str):
                self.assertEqual(fault(BadText, read_store, (1,), thing), (0,))
                self.assertEqual(fault(BadText, read_union, (1,), thing), (0,))
        self.assertEqual(fault(BadText, read_store, (1,), ""), (0,))
        self.assertEqual(fault(BadText, read_union, (1,), ""), (0,))

    def test_a_wrong_sign_at_every_place_and_behind_the_end(self):
        long_union = UNION_TEXT + " or () by 3(7, 1000000000, h), 0(0) with 5 not a, 10 not 20"
        for read, text in ((read_store, "0(1, 20); 3(1000000000); 5(0)"), (read_union, long_union),
                           (read_store, "empty"), (read_union, "nothing")):
            for at in range(len(text) + 1):
                for sign in ("x", "\n", "%", "-", "\u0661", "A"):
                    self.assertEqual(fault(BadText, read, WIDTHS, text[:at] + sign + text[at:]), (at,))
                    self.assertEqual(fault(BadText, read, WIDTHS, text[:at] + sign), (at,))

    def test_texts_that_are_cut_off(self):
        text = "0(1, 20); 3(7)"
        for at in range(len(text)):
            if at not in (8,):
                self.assertEqual(fault(BadText, read_store, WIDTHS, text[:at]), (at,))
        for at in range(len("nothing")):
            self.assertEqual(fault(BadText, read_union, WIDTHS, "nothing"[:at]), (at,))

    def test_numbers(self):
        for figures, at in (("00", 1), ("01", 1), ("007", 1), ("1000000001", 9), ("2000000000", 9),
                            ("9999999999", 9), ("10000000000", 10), ("1" * 5000, 9), ("0" * 5000, 1),
                            ("999999999999", 9), ("-1", 0), ("+1", 0), ("1_0", 1), ("1.0", 1), (" 1", 0)):
            self.assertEqual(fault(BadText, read_store, (2,), f"0({figures}, 2)"), (2 + at,), figures)
            self.assertEqual(fault(BadText, read_store, (2,), f"0(5, {figures})"), (5 + at,), figures)
            self.assertEqual(fault(BadText, read_union, (1,), f"({figures}) by 0(a)"), (1 + at,), figures)
            self.assertEqual(fault(BadText, read_union, (1,), f"() by 0(a) with a not {figures}"), (22 + at,), figures)
        for figures in ("0", "10", "999999999", "1000000000"):
            self.assertEqual(read_store((1,), f"0({figures})"), ((0, (int(figures),)),))

    def test_numbers_of_tables(self):
        for text, at in (("6(1)", 0), ("9(1)", 0), ("00(1)", 1), ("10(1)", 1), ("a(1)", 0), ("0(1); 6(1)", 6)):
            self.assertEqual(fault(BadText, read_store, (1, 1), text), (at,))
        self.assertEqual(fault(BadText, read_union, (1,), "() by 6(a)"), (6,))
        self.assertEqual(fault(BadText, read_union, (1,), "() by a(a)"), (6,))

    def test_brackets_hold_one_thing_at_least_but_for_heads(self):
        self.assertEqual(fault(BadText, read_store, (1,), "0()"), (2,))
        self.assertEqual(fault(BadText, read_union, (1,), "() by 0()"), (8,))
        self.assertEqual(fault(BadText, read_union, (1,), "() by "), (6,))
        self.assertEqual(fault(BadText, read_union, (1,), "() by 0(a) with "), (16,))
        self.assertEqual(fault(BadText, read_union, (1,), "() by 0(a) or "), (14,))
        self.assertEqual(fault(BadText, read_store, (1,), "0(1); "), (6,))
        self.assertEqual(fault(BadText, read_store, (1,), "0(a)"), (2,))

    def test_stores_spoiled_at_every_place(self):
        for number, text in enumerate(("0(1, 20); 3(1000000000); 5(0)", "empty")):
            for wrong in spoiled(number, text, "0123456789(),; emptyx"):
                self.check(read_store, BadStore, STORE_FORM, STORE_ENDS, wrong)

    def test_unions_spoiled_at_every_place(self):
        for number, text in enumerate((UNION_TEXT, "() by 5(10, 1000000000) with 10 not c, 0 not 1 or (1) by 0(h)",
                                       "nothing")):
            for wrong in spoiled(number, text, "0123456789(), abchiotnwby"):
                self.check(read_union, (BadQuestion, BadUnion), UNION_FORM, UNION_ENDS, wrong)

    def check(self, read, others, form, ends, text):
        """Check that a text is read or refused at the place that the form tells."""
        try:
            read(WIDTHS, text)
            place = None
        except BadText as caught:
            place = caught.place
        except others:
            place = None
        right = None if form.fullmatch(text) else place_in(form, ends, text)
        self.assertEqual(place, right, text)
