"""[0.4], [1.1]: whole numbers, sequences, widths."""
import unittest

from meetwhere.errors import BadWidths
from meetwhere.widths import check_widths, is_sequence, is_whole
from tests.plain import NO_SEQUENCES, ODD_THINGS, fault, unchanged


class Whole(unittest.TestCase):
    def test_whole_numbers(self):
        for number in (0, 1, -1, 10 ** 9, -10 ** 30, 10 ** 5000):
            self.assertIs(is_whole(number), True)

    def test_other_things_are_none(self):
        for thing in ODD_THINGS + ((), [], (1,), [1], "a"):
            self.assertIs(is_whole(thing), False)
            self.assertIs(is_whole(thing, 0, 5), False)

    def test_limits_are_let_and_what_lies_behind_is_not(self):
        for number, right in ((1, False), (2, True), (4, True), (5, False)):
            self.assertIs(is_whole(number, 2, 4), right)
        self.assertIs(is_whole(2, low=3), False)
        self.assertIs(is_whole(3, low=3), True)
        self.assertIs(is_whole(3, high=3), True)
        self.assertIs(is_whole(4, high=3), False)
        self.assertIs(is_whole(-9, None, 3), True)
        self.assertIs(is_whole(9, 3, None), True)
        self.assertIs(is_whole(0, 0, 0), True)
        self.assertIs(is_whole(True, 0, 1), False)


class Sequence(unittest.TestCase):
    def test_lists_and_tuples_and_nothing_else(self):
        for thing in ([], (), [1], (None,)):
            self.assertIs(is_sequence(thing), True)
        for thing in NO_SEQUENCES:
            self.assertIs(is_sequence(thing), False)


class Widths(unittest.TestCase):
    def test_right_ones_become_tuples(self):
        for widths in ((1,), (3,), (1, 2, 3), (3, 3, 3, 3, 3, 3), (2, 1, 2, 1, 2, 1)):
            self.assertEqual(check_widths(widths), widths)
            self.assertEqual(unchanged(self, check_widths, widths), widths)

    def test_the_first_wrong_item_is_told(self):
        for wrong in (0, 4, -1, True, False, 1.0, "1", None, (1,), [1]):
            self.assertEqual(fault(BadWidths, check_widths, [wrong]), (0,))
            self.assertEqual(fault(BadWidths, check_widths, (1, 2, wrong, 3)), (2,))
            self.assertEqual(fault(BadWidths, check_widths, (1, 1, 1, 1, 1, wrong)), (5,))
        self.assertEqual(fault(BadWidths, check_widths, (1, 0, 1, 4)), (1,))

    def test_no_sequence_of_one_to_six_things(self):
        for thing in NO_SEQUENCES + ((), [], (1,) * 7, (1, 1, 1, 1, 1, 1, 0)):
            self.assertEqual(fault(BadWidths, check_widths, thing), (0,))
