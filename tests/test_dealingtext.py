"""[1.9], [1.10]: texts of dealings, written and read back."""
import re
import unittest

from meetwhere.dealings import Dealing, everywhere
from meetwhere.dealingtext import dealing_text, read_dealing
from meetwhere.errors import BadDealing, BadSorts, BadText, BadWidths
from meetwhere.sorts import Sorts
from tests import plain
from tests.plain import GREATEST, ODD_THINGS, fault
from tests.test_texts import NUMBER, ROWS, place_in, spoiled

WIDTHS = (2, 1)
EXAMPLE = "hands 2; modulus 2; named none; 0(0, 1) to 0, 1; 0(1, 1) to 1"
LISTED = f"{NUMBER}(, {NUMBER})*"
FORM = re.compile(f"hands {NUMBER}; modulus {NUMBER}; named (none|{LISTED})(; {ROWS} to {LISTED})*")
# Whatever is the beginning of a text of the form becomes one with one of these ends of texts.
ENDS = ("hands 0; modulus 0; named none", "hands 0; modulus 0; named 0, 0; 0(0, 0) to 0, 0; 0(0) to 0")


class Written(unittest.TestCase):
    def test_example(self):
        dealing = Dealing((2,), Sorts((), 2), 2, [((0, (1, 1)), (1,)), ((0, (0, 0)), ()), ((0, (0, 1)), (1, 0))])
        self.assertEqual(dealing_text(dealing), EXAMPLE)
        self.assertTrue(read_dealing((2,), EXAMPLE) == dealing)

    def test_ordinary(self):
        self.assertEqual(dealing_text(Dealing((1,), Sorts((), 1), 1, ())), "hands 1; modulus 1; named none")
        self.assertEqual(dealing_text(Dealing((1,), Sorts((0, GREATEST), 6), 8, [((0, (7,)), (7, 0))])),
                         "hands 8; modulus 6; named 0, 1000000000; 0(7) to 0, 7")
        self.assertEqual(dealing_text(everywhere((1, 1), Sorts((), 1), 3)),
                         "hands 3; modulus 1; named none; 0(0) to 0, 1, 2; 1(0) to 0, 1, 2")

    def test_what_was_written_is_read_back(self):
        for number in range(120):
            widths = ((1,), (2, 1), (1, 1, 1, 1, 1, 2), (3,))[number % 4]
            sorts = plain.some_sorts(number, 20, 8 if number % 4 == 0 else 2, 6 if number % 4 < 2 else 2)
            dealing = plain.some_dealing(number, widths, sorts, 1 + number % 8)
            text = dealing_text(dealing)
            self.assertIsNotNone(FORM.fullmatch(text))
            self.assertTrue(read_dealing(list(widths), text) == dealing)

    def test_many_kinds(self):
        dealing = Dealing((3,), Sorts((), 6), 8, [(kind, (0, 7)) for kind in plain.all_kinds((3,), Sorts((), 6))])
        text = dealing_text(dealing)
        self.assertLess(len(text), 10000)
        self.assertTrue(read_dealing((3,), text) == dealing)
        self.assertEqual(fault(BadText, read_dealing, (3,), text + "x"), (len(text),))


class ReadBack(unittest.TestCase):
    def test_kinds_and_hands_in_any_order(self):
        text = "hands 3; modulus 2; named 4; 1(2) to 2, 0, 1; 0(0, 1) to 1; 1(0) to 2, 1"
        self.assertEqual(read_dealing(WIDTHS, text).rule, (((0, (0, 1)), (1,)), ((1, (0,)), (1, 2)),
                                                           ((1, (2,)), (0, 1, 2))))
        self.assertEqual(read_dealing(WIDTHS, text).sorts, Sorts((4,), 2))

    def test_errors_in_their_order(self):
        self.assertEqual(fault(BadWidths, read_dealing, (1, 0), None), (1,))
        self.assertEqual(fault(BadWidths, read_dealing, None, "x"), (0,))
        wrong = "hands 9; modulus 7; named 2, 1; 5(0) to 9"
        self.assertEqual(fault(BadText, read_dealing, WIDTHS, wrong + "x"), (len(wrong),))
        for text, told in ((wrong, ("named",)), (wrong.replace("2, 1", "1, 1"), ("named",)),
                           (wrong.replace("2, 1", "0, 1, 2, 3, 4, 5, 6, 7, 8"), ("named",)),
                           (wrong.replace("2, 1", "1, 2"), ("modulus",)),
                           ("hands 0; modulus 0; named none", ("modulus",))):
            self.assertEqual(fault(BadSorts, read_dealing, WIDTHS, text), told)
        for front, told in (("hands 9; modulus 6; named none; 5(0) to 9", ("hands", 0)),
                            ("hands 0; modulus 1; named none", ("hands", 0)),
                            ("hands 1000000000; modulus 1; named none", ("hands", 0)),
                            ("hands 2; modulus 2; named none; 2(0) to 9", ("kind", 0)),
                            ("hands 2; modulus 2; named none; 1(1) to 0; 1(2) to 9", ("kind", 1)),
                            ("hands 2; modulus 2; named none; 1(1) to 0; 1(1, 1) to 0", ("kind", 1)),
                            ("hands 2; modulus 2; named none; 0(1) to 0", ("kind", 0)),
                            ("hands 2; modulus 2; named none; 1(1) to 0; 1(1) to 0", ("kind", 1)),
                            ("hands 2; modulus 2; named none; 1(0) to 0; 1(1) to 2", ("lot", 1)),
                            ("hands 2; modulus 2; named none; 1(0) to 0; 1(1) to 0, 1, 0", ("lot", 1)),
                            ("hands 2; modulus 2; named none; 0(1000000000, 0, 5, 5, 5) to 0", ("kind", 0))):
            self.assertEqual(fault(BadDealing, read_dealing, WIDTHS, front), told)


class Places(unittest.TestCase):
    def test_things_that_are_no_text(self):
        for thing in ODD_THINGS + ((), [], 5, [EXAMPLE]):
            if not isinstance(thing, str):
                self.assertEqual(fault(BadText, read_dealing, WIDTHS, thing), (0,))
        self.assertEqual(fault(BadText, read_dealing, WIDTHS, ""), (0,))

    def test_a_wrong_sign_at_every_place_and_behind_the_end(self):
        for text in (EXAMPLE, "hands 2; modulus 3; named 4, 1000000000; 1(10) to 1", "hands 8; modulus 1; named none"):
            for at in range(len(text) + 1):
                for sign in ("x", "\n", "%", "-", "\u0661", "A"):
                    self.assertEqual(fault(BadText, read_dealing, WIDTHS, text[:at] + sign + text[at:]), (at,))
                    self.assertEqual(fault(BadText, read_dealing, WIDTHS, text[:at] + sign), (at,))

    def test_spoiled_at_every_place(self):
        for number, text in enumerate((EXAMPLE, "hands 10; modulus 3; named 4, 1000000000; 1(10, 20) to 1; 5(0) to 0",
                                       "hands 8; modulus 1; named none")):
            for wrong in spoiled(number, text, "0123456789(),; hnamedotuls"):
                self.check(wrong)

    def check(self, text):
        """Check that a text is read or refused at the place that the form tells."""
        try:
            read_dealing(WIDTHS, text)
            place = None
        except BadText as caught:
            place = caught.place
        except (BadSorts, BadDealing):
            place = None
        right = None if FORM.fullmatch(text) else place_in(FORM, ENDS, text)
        self.assertEqual(place, right, text)

    def test_what_has_one_thing_at_least(self):
        for text in ("hands ", "hands 1; modulus ", "hands 1; modulus 1; named ", "hands 1; modulus 1; named 4, ",
                     "hands 1; modulus 1; named none; ", "hands 1; modulus 1; named none; 1(",
                     "hands 1; modulus 1; named none; 1(0) to ", "hands 1; modulus 1; named none; 1(0) to 0, ",
                     "hands 1; modulus 1", "hands 1; modulus 1; named non"):
            self.assertEqual(fault(BadText, read_dealing, WIDTHS, text), (len(text),))
        for text, at in (("hands 1; modulus 1; named ; 1(0) to 0", 26), ("hands 1; modulus 1; named none, 1", 30),
                         ("hands 1; modulus 1; named none; 1() to 0", 34), ("hands 1; modulus 1; named 1, none", 29),
                         ("hands 01; modulus 1; named none", 7), ("hands 1; modulus 1; named none; 6(0) to 0", 32),
                         ("hands 1; modulus 1; named none; 10(0) to 0", 33), ("hands 1000000001; modulus 1", 15),
                         ("hands " + "1" * 4000, 15), ("hands 1; modulus 1; named none; 1(0)", 36)):
            self.assertEqual(fault(BadText, read_dealing, WIDTHS, text), (at,))
