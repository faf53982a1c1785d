"""[4.6], [4.7]: dealings over other sorts that deal alike, and rows that two dealings deal unlike."""
import itertools
import unittest

from meetwhere.dealings import Dealing, all_kinds, dealing_by, everywhere
from meetwhere.errors import Apart, BadFactor, BadNamed, TooMany
from meetwhere.refining import UnlikeRow, coarsest, finer, rows_differ, with_named
from meetwhere.sorts import Sorts
from tests import plain
from tests.plain import GREATEST, NO_VALUES, fault, in_tuples

WIDTHS = (1, 2)


def rows_to(most):
    """Return all rows with values up to the most one, ascending."""
    return plain.rows_with(WIDTHS, range(most + 1))


def deals_alike(one, other, most=13):
    """Return whether two dealings deal all rows with values up to the most one alike."""
    return all(one(row) == other(row) for row in rows_to(most))


def some_dealings(many):
    """Yield dealings made up by number, some of which are finer than they need be."""
    for number in range(many):
        sorts = plain.some_sorts(number, 4, 2, 3)
        dealing = plain.some_dealing(number, WIDTHS, sorts, 2)
        if number % 3 == 0 and sorts.modulus <= 3:
            dealing = finer(dealing, 2)
        if number % 4 < 2:
            dealing = with_named(dealing, 5 + number % 3)
        yield dealing


class Finer(unittest.TestCase):
    def test_every_row_is_dealt_alike(self):
        for number in range(40):
            sorts = plain.some_sorts(number, 4)
            dealing = plain.some_dealing(number, WIDTHS, sorts, 3)
            for factor in range(1, 6 // sorts.modulus + 1):
                made = finer(dealing, factor)
                self.assertEqual((made.sorts, made.widths, made.hands),
                                 (Sorts(sorts.named, sorts.modulus * factor), WIDTHS, 3))
                self.assertTrue(deals_alike(made, dealing))
                self.assertTrue(made == dealing if factor == 1 else made != dealing)
            for value in (0, 3, 6, 11, GREATEST):
                if value not in sorts.named:
                    made = with_named(dealing, value)
                    self.assertEqual(made.sorts, Sorts(sorted(sorts.named + (value,)), sorts.modulus))
                    self.assertTrue(deals_alike(made, dealing))
                    for row in ((0, (GREATEST,)), (1, (GREATEST, 2)), (1, (GREATEST - 1, GREATEST))):
                        self.assertEqual(made(row), dealing(row))

    def test_factors(self):
        for thing in (0, 7, -1, True, False, 1.0, "1", None, [2], (1,), 10 ** 9):
            self.assertEqual(fault(BadFactor, finer, everywhere((1,), Sorts((), 1), 2), thing), (in_tuples(thing),))
        for modulus in range(1, 7):
            dealing = everywhere((1,), Sorts((), modulus), 1)
            for factor in range(1, 7):
                if modulus * factor <= 6:
                    self.assertEqual(finer(dealing, factor).sorts.modulus, modulus * factor)
                else:
                    self.assertEqual(fault(BadFactor, finer, dealing, factor), (factor,))

    def test_values_that_cannot_be_named(self):
        dealing = everywhere((1,), Sorts((3,), 2), 2)
        for thing in NO_VALUES + (3, [4]):
            self.assertEqual(fault(BadNamed, with_named, dealing, thing), (in_tuples(thing),))
        seven = everywhere((1,), Sorts(tuple(range(7)), 1), 2)
        eight = with_named(seven, 9)
        self.assertEqual(eight.sorts.named, (0, 1, 2, 3, 4, 5, 6, 9))
        self.assertEqual(fault(BadNamed, with_named, eight, 8), (8,))


class Coarsest(unittest.TestCase):
    def test_against_all_coarser_sorts(self):
        for dealing in some_dealings(60):
            found = coarsest(dealing)
            self.assertTrue(deals_alike(found, dealing))
            named, modulus = dealing.sorts.named, dealing.sorts.modulus
            self.assertEqual(modulus % found.sorts.modulus, 0)
            self.assertLessEqual(set(found.sorts.named), set(named))
            right = None
            for lesser in range(1, modulus + 1):
                for many in range(len(named) + 1):
                    for kept in itertools.combinations(named, many):
                        right = right or self.over(dealing, Sorts(kept, lesser))
            self.assertTrue(found == right)

    def over(self, dealing, sorts):
        """Return the dealing over other sorts that deals all rows alike, None if there is none."""
        lots = {}
        for row in rows_to(13):
            lots.setdefault(plain.kind_of(sorts, row), set()).add(dealing(row))
        if all(len(found) == 1 for found in lots.values()):
            return Dealing(WIDTHS, sorts, dealing.hands, [(kind, min(found)) for kind, found in lots.items()])
        return None

    def test_ordinary(self):
        dealing = dealing_by((1,), Sorts((4, 7), 4), 2, lambda kind: ((0,), (1,), (0,), (1,), (0,), (1,))[kind[1][0]])
        # 4 goes where even values go, 7 where odd ones go.
        self.assertEqual(coarsest(dealing).sorts, Sorts((), 2))
        self.assertEqual(coarsest(dealing).rule, (((0, (0,)), (0,)), ((0, (1,)), (1,))))
        self.assertEqual(coarsest(dealing.with_lot((0, (0,)), (1,))).sorts, Sorts((4,), 2))
        self.assertEqual(coarsest(dealing.with_lot((0, (3,)), (0, 1))).sorts, Sorts((), 4))

    def test_a_lesser_modulus_must_divide(self):
        dealing = dealing_by((1,), Sorts((), 3), 2, lambda kind: ((0,), (1,), (0,))[kind[1][0]])
        self.assertTrue(coarsest(dealing) == dealing)
        six = dealing_by((1,), Sorts((), 6), 2, lambda kind: (int(kind[1][0] % 4 == 3),))
        self.assertTrue(coarsest(six) == six)

    def test_what_stands_beside_a_sort_counts(self):
        for width in (2, 3):
            dealing = dealing_by((width,), Sorts((4,), 2), 2, lambda kind: (sum(kind[1]) % 2,))
            self.assertEqual(coarsest(dealing).sorts, Sorts((4,), 2))
            even = dealing_by((width,), Sorts((4,), 2), 2, lambda kind: (sum((1, 1, 0)[sort] for sort in kind[1]) % 2,))
            self.assertEqual(coarsest(even).sorts, Sorts((), 2))
        for first, second in ((0, 1), (1, 0)):
            # Remainders in one column, named values in the other: both remainders have the same lots, in other places.
            dealing = dealing_by((2,), Sorts((4, 5), 2), 2, lambda kind: (
                (sum(kind[1]) % 2,) if kind[1][first] > 1 >= kind[1][second] else ()))
            self.assertTrue(coarsest(dealing) == dealing)

    def test_the_greatest(self):
        dealing = everywhere((3, 3, 3, 3, 3, 3), Sorts(tuple(range(8)), 6), 8)
        self.assertTrue(coarsest(dealing) == everywhere((3, 3, 3, 3, 3, 3), Sorts((), 1), 8))

    def test_alike_exactly_if_their_coarsest_are_equal(self):
        dealings = list(some_dealings(24)) + [everywhere(WIDTHS, Sorts((), 1), 2)]
        dealings += [finer(dealing, 2) for dealing in dealings if dealing.sorts.modulus <= 3]
        alike = 0
        for one, other in itertools.combinations(dealings, 2):
            found = rows_differ(one, other)
            self.assertIs(found is None, coarsest(one) == coarsest(other))
            alike += found is None
        self.assertGreater(alike, 5)


class Differ(unittest.TestCase):
    def test_against_all_rows(self):
        dealings = list(some_dealings(30))
        for one, other in itertools.product(dealings[:15], dealings):
            right = [row for row in rows_to(13) if one(row) != other(row)]
            found = rows_differ(one, other)
            if found is None:
                self.assertEqual(right, [])
            else:
                self.assertEqual(found.row, right[0])

    def test_few_differences(self):
        for number in range(40):
            one = plain.some_dealing(number, WIDTHS, plain.some_sorts(number, 3), 3)
            kinds = all_kinds(WIDTHS, one.sorts)
            kind = kinds[number % len(kinds)]
            other = one.with_lot(kind, [hand for hand in range(3) if hand not in one.lot_of(kind)])
            for two in (other, finer(other, 2), with_named(other, 7)):
                right = [row for row in rows_to(13) if one(row) != two(row)][0]
                self.assertTrue(rows_differ(one, two) == UnlikeRow(right))
                self.assertTrue(rows_differ(two, one) == UnlikeRow(right))

    def test_far_values(self):
        one = with_named(everywhere((2,), Sorts((), 2), 2), GREATEST)
        other = one.with_lot((0, (0, 2)), (1,))
        self.assertEqual(rows_differ(one, other).row, (0, (GREATEST, 1)))
        self.assertIsNone(rows_differ(one, everywhere((2,), Sorts(tuple(range(1, 9)), 5), 2)))

    def test_apart(self):
        one = everywhere((1,), Sorts((), 2), 2)
        self.assertEqual(fault(Apart, rows_differ, one, everywhere((2,), Sorts((), 1), 3)), ("widths",))
        self.assertEqual(fault(Apart, rows_differ, one, everywhere((1,), Sorts((), 1), 3)), ("hands",))
        self.assertIsNone(rows_differ(one, everywhere((1,), Sorts((1,), 3), 2)))

    def test_exactly_five_thousand_rows_and_just_more(self):
        # Four named values and six remainders make ten values: 1,000 rows of each of five tables.
        ten, plain_sorts = Sorts((1, 2, 3, 4), 6), Sorts((), 1)
        five = everywhere((3,) * 5, ten, 2)
        self.assertIsNone(rows_differ(five, everywhere((3,) * 5, plain_sorts, 2)))
        last = all_kinds((3,) * 5, ten)[-1]
        self.assertEqual(rows_differ(five.with_lot(last, ()), everywhere((3,) * 5, plain_sorts, 2)).row,
                         (4, (5, 5, 5)))
        more = everywhere((3, 3, 3, 3, 3, 1), ten, 2)
        self.assertEqual(fault(TooMany, rows_differ, more, everywhere((3, 3, 3, 3, 3, 1), plain_sorts, 2)), (5000,))
        self.assertEqual(fault(Apart, rows_differ, more, everywhere((3, 3, 3, 3, 3, 2), plain_sorts, 2)), ("widths",))
        self.assertEqual(fault(Apart, rows_differ, more, everywhere((3, 3, 3, 3, 3, 1), plain_sorts, 3)), ("hands",))

    def test_named_in_both_and_common_multiples(self):
        one = everywhere((3,), Sorts((0, 1, 2), 4), 1)
        # The values are three named ones and 12 remainders: 15 ** 3 rows. With 5 for 3 they are 23 ** 3.
        self.assertIsNone(rows_differ(one, everywhere((3,), Sorts((1, 2), 3), 1)))
        self.assertEqual(fault(TooMany, rows_differ, one, everywhere((3,), Sorts((1, 2), 5), 1)), (5000,))

    def test_unlike_row_is_a_result(self):
        row = [0, [1]]
        self.assertIs(UnlikeRow(row).row, row)
        self.assertTrue(UnlikeRow((0, (1,))) == UnlikeRow((0, (1,))))
        self.assertFalse(UnlikeRow((0, (1,))) != UnlikeRow((0, (1,))))
        for other in (UnlikeRow((0, (2,))), (0, (1,)), None):
            self.assertTrue(UnlikeRow((0, (1,))) != other)
