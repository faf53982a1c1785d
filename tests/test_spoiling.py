"""[8.6], and what [8.7] tells of it: spoiling dealings."""
import unittest

from meetwhere.asking import rows_of
from meetwhere.dealings import all_kinds, count_kinds
from meetwhere.dealt import answers_together, dealt_stores
from meetwhere.errors import BadStore, BadWidths, EmptyRows, TooMany
from meetwhere.handing import find_covering
from meetwhere.leastness import least_cases
from meetwhere.questions import union_values
from meetwhere.rightness import is_right, meeting_hands
from meetwhere.sorts import Sorts
from meetwhere.spoiling import make_spoiling
from tests import plain
from tests.plain import GREATEST, NO_SEQUENCES, fault, in_lists
from tests.test_handing import P, Q

WIDTHS = (1, 2)


class Spoiling(unittest.TestCase):
    def test_example(self):
        dealing = make_spoiling((2,), ((0, (0, 0)), (0, (0, 1))))
        self.assertTrue(dealing.sorts == Sorts((0, 1), 1))
        self.assertEqual((dealing.hands, count_kinds((2,), dealing.sorts)), (2, 9))
        kinds = all_kinds((2,), dealing.sorts)
        self.assertEqual(dealing.held(0), tuple(kind for kind in kinds if kind != (0, (0, 0))))
        self.assertEqual(dealing.held(1), tuple(kind for kind in kinds if kind != (0, (0, 1))))
        self.assertTrue(is_right(Q, dealing))
        self.assertFalse(is_right(P, dealing))

    def test_hands_and_kinds(self):
        for number in range(120):
            store = plain.some_store(number, WIDTHS, 5, 6)
            if not store:
                continue
            dealing = make_spoiling(WIDTHS, store)
            values = sorted({value for _, row in store for value in row})
            self.assertEqual((dealing.widths, dealing.hands), (WIDTHS, len(store)))
            self.assertTrue(dealing.sorts == Sorts(values, 1))
            for hand, row in enumerate(store):
                lacking = (row[0], tuple(values.index(value) for value in row[1]))
                kinds = plain.all_kinds(WIDTHS, dealing.sorts)
                self.assertEqual(dealing.held(hand), tuple(kind for kind in kinds if kind != lacking))
                self.assertEqual(dealing(row), tuple(other for other in range(len(store)) if other != hand))

    def test_rows_lie_at_one_hand_exactly_if_one_of_them_is_lacking(self):
        for number in range(60):
            rows = plain.some_store(number, WIDTHS, 2, 3)
            if not rows:
                continue
            dealing = make_spoiling(WIDTHS, rows)
            for k in range(40):
                store = tuple(sorted(set(plain.some_store(40 * number + k, WIDTHS, 3, 5))
                                     | set(rows if k % 3 else rows[1:])))
                whole = set(rows) <= set(store)
                self.assertEqual(meeting_hands(dealing, store) == (), whole)
                self.assertEqual(store in dealt_stores(dealing, store), not whole)

    def test_right_for_what_does_not_hold_the_rows_and_wrong_for_what_has_just_these(self):
        seen = 0
        for number in range(120):
            union, other = (plain.some_union(2 * number + k, WIDTHS, 1, 2) for k in (0, 1))
            for index, case in list(least_cases(other, Sorts((), 1), union_values(union + other)))[:3]:
                rows = rows_of(other[index], case)
                dealing = make_spoiling(WIDTHS, rows)
                self.assertFalse(is_right(other, dealing))
                self.assertFalse(set(plain.answers(other, rows)) <= set(answers_together(other, dealing, rows)))
                self.assertIs(is_right(union, dealing), find_covering(WIDTHS, (union,), rows) is None)
                seen += is_right(union, dealing)
        self.assertGreater(seen, 60)

    def test_rows_in_any_order_and_twice(self):
        rows = ((0, (5,)), (1, (GREATEST, 0)), (0, (5,)), (0, (1,)))
        given = in_lists(rows)
        found = make_spoiling([1, 2], given)
        self.assertEqual(given, in_lists(rows))
        plain.wreck(given)
        self.assertTrue(found == make_spoiling(WIDTHS, ((0, (1,)), (0, (5,)), (1, (GREATEST, 0)))))
        self.assertEqual((found.hands, found.sorts.named), (3, (0, 1, 5, GREATEST)))
        self.assertEqual(found((0, (1,))), (1, 2))

    def test_eight_and_nine(self):
        eight = tuple((0, (value,)) for value in range(8))
        self.assertEqual(make_spoiling((1,), eight).hands, 8)
        self.assertEqual(make_spoiling((1,), eight + eight[:1] * 52).hands, 8)
        self.assertEqual(fault(TooMany, make_spoiling, (1,), eight + ((0, (8,)),)), (8,))
        nine = tuple((0, (v, w)) for v in range(3) for w in range(3))
        self.assertEqual(fault(TooMany, make_spoiling, (2,), nine), (8,))
        self.assertEqual(make_spoiling((2,), nine[:8]).hands, 8)
        wide = ((0, (1, 2, 3)), (0, (4, 5, 6)), (0, (7, 8, 8)))
        self.assertEqual((make_spoiling((3,), wide).hands, make_spoiling((3,), wide).sorts.many), (3, 9))
        self.assertEqual(fault(TooMany, make_spoiling, (3,), wide[:2] + ((0, (7, 8, 9)),)), (8,))
        self.assertEqual(make_spoiling((1,), eight[3:4]).rule, (((0, (1,)), (0,)),))

    def test_errors_in_their_order(self):
        self.assertEqual(fault(BadWidths, make_spoiling, (7,), None), (0,))
        for thing in NO_SEQUENCES + ([(0, (1,))] * 61,):
            self.assertEqual(fault(BadStore, make_spoiling, (1,), thing), (0, "many"))
        self.assertEqual(fault(BadStore, make_spoiling, (1,), ((0, (1,)), (0, (True,)))), (1, "value"))
        for rows in ((), []):
            self.assertEqual(fault(EmptyRows, make_spoiling, (1,), rows), ((),))
