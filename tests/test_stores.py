"""[0.4], [0.5], [0.7], [1.2], [1.3]: values, rows, stores."""
import unittest

from meetwhere.errors import BadRow, BadStore, BadWidths
from meetwhere.stores import check_row, check_store, is_value, store_values
from tests.plain import GREATEST, NO_SEQUENCES, NO_VALUES, fault, some_store, unchanged

# Each thing that is no row by the widths (1, 2), with its word, in the order of the words.
WRONG_ROWS = tuple([(thing, "row") for thing in NO_SEQUENCES]) + (
    ((), "row"), ((0,), "row"), ((0, (1,), 2), "row"), ((True, (1,)), "row"), ((False, (1,)), "row"),
    (("0", (1,)), "row"), ((None, (1,)), "row"), ((0.0, (1,)), "row"), ((0, 1), "row"), ((0, "1"), "row"),
    ((0, {1}), "row"), ((9, 1), "row"), ((True, (True, True)), "row"),
    ((2, (1,)), "table"), ((-1, (1,)), "table"), ((2, ()), "table"), ((5, (True,)), "table"),
    ((0, ()), "width"), ((0, (1, 2)), "width"), ((1, (1,)), "width"), ((1, (1, 2, 3)), "width"),
    ((0, (True, True)), "width"),
) + tuple([((0, (thing,)), "value") for thing in NO_VALUES]) + ((((1, (0, True))), "value"),)


class Values(unittest.TestCase):
    def test_values(self):
        for thing in (0, 1, 999, GREATEST):
            self.assertIs(is_value(thing), True)
        for thing in NO_VALUES:
            self.assertIs(is_value(thing), False)


class Rows(unittest.TestCase):
    def test_rows_become_tuples(self):
        for row in ((0, (0,)), (1, (GREATEST, 0)), (0, (GREATEST,))):
            self.assertEqual(check_row((1, 2), row), row)
            self.assertEqual(unchanged(self, check_row, (1, 2), row), row)

    def test_words(self):
        for row, what in WRONG_ROWS:
            self.assertEqual(fault(BadRow, check_row, (1, 2), row), (what,), row)

    def test_widths_come_first(self):
        self.assertEqual(fault(BadWidths, check_row, (1, 4), None), (1,))


class Stores(unittest.TestCase):
    def test_rows_in_any_order_and_twice(self):
        rows = [(1, (2, 1)), (0, [5]), [1, (1, 9)], (0, (4,)), (0, (5,)), (1, (2, 1))]
        store = ((0, (4,)), (0, (5,)), (1, (1, 9)), (1, (2, 1)))
        self.assertEqual(check_store([1, 2], rows), store)
        self.assertEqual(unchanged(self, check_store, (1, 2), tuple(rows)), store)
        self.assertEqual(check_store((1, 2), store), store)

    def test_no_rows_and_sixty(self):
        self.assertEqual(check_store((1,), []), ())
        self.assertEqual(check_store((1,), ()), ())
        sixty = [(0, (59 - k,)) for k in range(60)]
        self.assertEqual(check_store((1,), sixty), tuple(reversed(sixty)))
        self.assertEqual(check_store((1,), [(0, (7,))] * 60), ((0, (7,)),))

    def test_many(self):
        for thing in NO_SEQUENCES + ([(0, (1,))] * 61, [None] * 61):
            self.assertEqual(fault(BadStore, check_store, (1,), thing), (0, "many"))

    def test_words_with_the_index_of_the_first_wrong_row(self):
        for row, what in WRONG_ROWS:
            rows = [(0, (3,)), (1, (1, 1)), row, None, (7, ())]
            self.assertEqual(fault(BadStore, check_store, (1, 2), rows), (2, what), row)
            self.assertEqual(fault(BadStore, check_store, (1, 2), rows[2:]), (0, what), row)
        self.assertEqual(fault(BadStore, check_store, (1, 2), [(0, (1,)), (0, (True,)), None]), (1, "value"))

    def test_widths_come_first(self):
        self.assertEqual(fault(BadWidths, check_store, (0,), None), (0,))

    def test_values_of_a_store(self):
        self.assertEqual(store_values(()), ())
        self.assertEqual(store_values(((0, (4,)), (1, (1, 9)), (1, (4, 1)))), (1, 4, 9))
        for number in range(20):
            store = some_store(number, (1, 2, 3), 9, 60)
            self.assertEqual(store_values(store), tuple(sorted({v for _, values in store for v in values})))
        for number in range(20):
            store = some_store(number, (1, 2, 3), GREATEST, 60)
            self.assertEqual(store_values(store), tuple(sorted({v for _, values in store for v in values})))
        many = tuple((0, (k,)) for k in range(300))
        self.assertEqual(store_values(many), tuple(range(300)))
