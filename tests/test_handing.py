"""[8.1] to [8.5], and [8.7]: readings that hold rows, unions that hand on to others."""
import itertools
import unittest

from meetwhere.asking import rows_of
from meetwhere.cases import all_cases, layings
from meetwhere.errors import BadQuestion, BadStore, BadUnion, BadUnions, BadWidths, TooMany
from meetwhere.handing import (Covered, Uncovered, covered_fault, enough_unions, find_covering, greatest_unions,
                               handing_table, hands_on, uncovered_fault)
from meetwhere.leastness import least_cases
from meetwhere.rightness import is_right
from meetwhere.sorts import Sorts
from meetwhere.spoiling import make_spoiling
from tests import plain
from tests.plain import GREATEST, NAMES, NO_SEQUENCES, fault, in_tuples, unchanged
from tests.test_leastness import plain_lesser

WIDTHS = (1, 2)
P = ((("a", "c"), ((0, ("a", "b")), (0, ("b", "c"))), ()),)
Q = ((("a", "b"), ((0, ("a", "b")), (0, ("b", "a"))), ()),)
EIGHT = (((), tuple((0, (letter,)) for letter in NAMES), ()),)
NEVER = ((("a",), ((0, ("a",)),), (("a", "a"),)),)
WRONG_GROUPS = NO_SEQUENCES + ((), [], [P] * 5, (P,) * 9)
PLAIN = Sorts((), 1)


def named(names, values=()):
    """Return a union of one question with so many names, each in an atom of its own, and these values."""
    return (((), tuple((0, (term,)) for term in tuple(NAMES[:names]) + tuple(values)), ()),)


def values_of(union):
    """Return the values of a union."""
    terms = [term for head, body, pairs in union
             for term in list(head) + [x for _, row in body for x in row] + [x for pair in pairs for x in pair]]
    return {term for term in terms if isinstance(term, int)}


def held_by(question, case):
    """Return the rows of a reading."""
    return plain.rows_of(question, dict(zip(plain.names_of(question), case)))


def plain_covering(unions, rows):
    """Return the first least reading that holds the rows, by going through all cases and readings."""
    for at, union in enumerate(unions):
        told = tuple(sorted(values_of(union) | {value for _, row in rows for value in row}))
        for index, question in enumerate(union):
            for case in all_cases(question, PLAIN, told):
                if set(rows) <= set(held_by(question, case)) and plain_lesser(union, index, case) is None:
                    return (at, index, case)
    return None


def plain_least(unions, other):
    """Return the least cases of the other union for the values of all."""
    told = tuple(sorted(set().union(*[values_of(union) for union in tuple(unions) + (other,)])))
    return [(index, case) for index, question in enumerate(other) for case in all_cases(question, PLAIN, told)
            if plain_lesser(other, index, case) is None]


def plain_handing(unions, other):
    """Return what hands_on tells, as the rows or as the first case that nothing holds."""
    rows = []
    for index, case in plain_least(unions, other):
        found = plain_covering(unions, held_by(other[index], case))
        if found is None:
            return (index, case)
        rows.append(((index, case), found))
    return tuple(rows)


def told_by(result):
    """Return the rows, or the case that nothing holds, of a result."""
    return result.rows if isinstance(result, Covered) else (result.index, result.case)


def some_group(number, many=None):
    """Return a group of unions made up by number."""
    many = 1 + number % 3 if many is None else many
    return tuple(plain.some_union(50 * number + k, WIDTHS, 1, 2 + number % 2) for k in range(many))


class Covering(unittest.TestCase):
    def test_against_a_plain_going_through_least_readings(self):
        seen = []
        for number in range(200):
            unions = some_group(number)
            store = plain.some_store(number, WIDTHS, 3, 2 + number % 2)
            right = plain_covering(unions, store)
            self.assertEqual(unchanged(self, find_covering, WIDTHS, unions, store), right)
            seen.append(None if right is None else right[0])
        for at in (None, 0, 1, 2):
            self.assertGreater(seen.count(at), 4)

    def test_rows_of_readings_are_held(self):
        seen = 0
        for number in range(150):
            unions = some_group(number)
            for at, union in enumerate(unions):
                for index, case in least_cases(union, PLAIN, tuple(sorted(values_of(union) | {0, 5}))):
                    rows = held_by(union[index], case)
                    found = find_covering(WIDTHS, unions, rows)
                    self.assertEqual(found, plain_covering(unions, rows))
                    self.assertLessEqual(found[0], at)
                    seen += 1
                    break
        self.assertGreater(seen, 150)

    def test_any_values_at_all(self):
        rows = ((0, (GREATEST, 7)),)
        self.assertEqual(find_covering((2,), (P,), rows), (0, 0, (7, GREATEST, 7)))
        self.assertEqual(find_covering((2,), (Q,), rows), (0, 0, (7, GREATEST)))
        self.assertEqual(find_covering((2,), (Q, P), rows + ((0, (7, 8)),)), (1, 0, (GREATEST, 7, 8)))
        self.assertIsNone(find_covering((2,), (Q,), rows + ((0, (7, 8)),)))
        self.assertIsNone(find_covering((2,), (Q, P), ((0, (1, 2)), (0, (3, 4)))))

    def test_the_empty_store(self):
        self.assertEqual(find_covering((2,), (P, Q), ()), (0, 0, (0, 0, 0)))
        self.assertEqual(find_covering((2,), ((), Q, P), []), (1, 0, (0, 0)))
        self.assertIsNone(find_covering((2,), ((), ()), ()))
        self.assertIsNone(find_covering((1,), (NEVER,), ()))
        # The first case of all is not always least.
        union = (((), ((0, ("a",)), (0, ("b",))), (("a", "b"),)), ((), ((0, ("a",)),), ()))
        self.assertEqual(find_covering((1,), (union,), ()), (0, 1, (0,)))
        self.assertEqual(find_covering((1,), ((union[0],),), ()), (0, 0, (0, 1)))

    def test_a_reading_is_least_in_its_own_union(self):
        both = (("a",), ((0, ("a",)), (0, ("b",))), (("a", "b"),))
        one = (("a",), ((0, ("a",)),), ())
        rows = ((0, (4,)), (0, (5,)))
        self.assertIsNone(find_covering((1,), ((both, one),), rows))
        self.assertEqual(find_covering((1,), ((one,), (both,)), rows), (1, 0, (4, 5)))

    def test_bounds(self):
        self.assertEqual([layings(4, 5, 1), layings(4, 4, 1)], [1540, 799])
        rows = tuple((0, (value,)) for value in range(1, 5))
        self.assertEqual(find_covering((1,), (named(4),), rows), None)
        self.assertEqual(find_covering((1,), (named(4),), rows[:1]), (0, 0, (1, 1, 1, 1)))
        self.assertEqual(fault(TooMany, find_covering, (1,), (named(4),), rows + ((0, (5,)),)), (1000,))
        self.assertEqual(fault(TooMany, find_covering, (1,), (named(4, (9,)),), rows), (1000,))
        self.assertIsNone(find_covering((1,), (named(4, (4,)),), rows))
        # The values of one union are not told for another one.
        self.assertIsNone(find_covering((1,), (named(4), named(1, (7, 8, 9))), rows))
        # All unions are counted, though the first one would do; and it is gone through behind all other errors.
        self.assertEqual(fault(TooMany, find_covering, (1,), (named(1), EIGHT), ()), (1000,))
        self.assertEqual(fault(BadStore, find_covering, (1,), (named(1), EIGHT), None), (0, "many"))

    def test_errors_in_their_order(self):
        self.assertEqual(fault(BadWidths, find_covering, (0,), None, None), (0,))
        for thing in WRONG_GROUPS:
            self.assertEqual(fault(BadUnions, find_covering, (2,), thing, None), (in_tuples(thing),))
        self.assertEqual(fault(BadUnion, find_covering, (2,), (P, None, 5), None), ("many", 0))
        self.assertEqual(fault(BadQuestion, find_covering, (2,), (P, (None,), 5), None), ("form", 0))
        self.assertEqual(fault(BadStore, find_covering, (2,), (P,), ((0, (1, True)),)), (0, "value"))
        self.assertEqual(find_covering((2,), [P, Q, P, Q], [[0, [1, 1]]]), (0, 0, (1, 1, 1)))


class HandsOn(unittest.TestCase):
    def test_example(self):
        found = hands_on((2,), (P,), Q)
        self.assertTrue(found == Covered((((0, (0, 0)), (0, 0, (0, 0, 0))), ((0, (0, 1)), (0, 0, (0, 1, 0))))))
        self.assertTrue(hands_on((2,), (Q,), P) == Uncovered(0, (0, 0, 1)))

    def test_against_a_plain_going_through_least_readings(self):
        seen = []
        for number in range(160):
            unions = some_group(number)
            for other in (plain.some_union(7000 + number, WIDTHS, 1, 2), unions[-1][:1], unions[0]):
                right = plain_handing(unions, other)
                found = hands_on(WIDTHS, unions, other)
                self.assertEqual(told_by(found), right)
                seen.append(found.__class__)
                if isinstance(found, Covered):
                    self.assertIsNone(covered_fault(WIDTHS, unions, other, found))
                else:
                    self.assertIsNone(uncovered_fault(WIDTHS, unions, other, found))
        self.assertGreater(seen.count(Covered), 60)
        self.assertGreater(seen.count(Uncovered), 60)

    def test_what_it_decides_holds_for_dealings(self):
        right, wrong = 0, 0
        for number in range(120):
            unions = some_group(number)
            other = plain.some_union(8000 + number, WIDTHS, 1, 2)
            found = hands_on(WIDTHS, unions, other)
            if isinstance(found, Uncovered):
                dealing = make_spoiling(WIDTHS, rows_of(other[found.index], found.case))
                self.assertTrue(all(is_right(union, dealing) for union in unions))
                self.assertFalse(is_right(other, dealing))
                wrong += 1
                continue
            for k in range(12):
                sorts = plain.some_sorts(k, 2)
                dealing = plain.some_dealing(100 * number + k, WIDTHS, sorts, 1 + k % 3, (0.7, 0.9)[k % 2])
                if all(is_right(union, dealing) for union in unions):
                    self.assertTrue(is_right(other, dealing))
                    right += 1
        self.assertGreater(right, 100)
        self.assertGreater(wrong, 30)

    def test_one_least_reading_must_hold_all_rows(self):
        # Each row of (0(a), 1(a)) is held by a reading, but both together by none.
        one = (((), ((0, ("a",)),), ()),)
        two = (((), ((1, ("a",)),), ()),)
        both = (((), ((0, ("a",)), (1, ("a",))), ()),)
        self.assertTrue(hands_on((1, 1), (one, two), both) == Uncovered(0, (0,)))
        self.assertTrue(hands_on((1, 1), (both,), one) == Covered((((0, (0,)), (0, 0, (0,))),)))
        self.assertTrue(hands_on((1, 1), (one, both), both) == Covered((((0, (0,)), (1, 0, (0,))),)))

    def test_a_union_that_never_answers(self):
        self.assertTrue(hands_on((2,), (P,), ()) == Covered(()))
        self.assertTrue(hands_on((2,), ((),), ()) == Covered(()))
        self.assertTrue(hands_on((1,), (named(1),), NEVER) == Covered(()))
        self.assertTrue(hands_on((2,), ((),), Q) == Uncovered(0, (0, 0)))
        self.assertTrue(hands_on((1,), (NEVER, ()), named(1)) == Uncovered(0, (0,)))

    def test_heads_of_any_lengths_and_told_values(self):
        head = ((("a", "a", 4), ((0, ("a", "b")), (0, ("b", "a"))), ()),)
        self.assertEqual([row[0] for row in hands_on((2,), (P, Q), head).rows],
                         [(0, (4, 4)), (0, (4, 0)), (0, (0, 4)), (0, (0, 0)), (0, (0, 1))])
        one = (((), ((0, ("a",)),), (("a", 6),)),)
        self.assertTrue(hands_on((1,), (one,), named(1)) == Uncovered(0, (6,)))
        self.assertTrue(hands_on((1,), (named(1),), one) == Covered((((0, (0,)), (0, 0, (0,))),)))
        # What no union of the group tells comes from the other one, each once, ascending.
        found = hands_on((1,), (one, named(1)), (((), ((0, ("a",)),), (("a", 3), (6, 9))),))
        self.assertEqual([row[0][1] for row in found.rows], [(6,), (9,), (0,)])

    def test_four_unions_with_an_empty_one(self):
        found = hands_on((2,), ((), Q, (), P), P)
        self.assertEqual(found.rows[0], ((0, (0, 0, 0)), (1, 0, (0, 0))))
        self.assertEqual(found.rows[1], ((0, (0, 0, 1)), (3, 0, (0, 0, 1))))

    def test_bounds(self):
        self.assertEqual(fault(TooMany, hands_on, (1,), (named(1),), EIGHT), (1000,))
        self.assertIsInstance(hands_on((1,), (named(1),), named(7)), Covered)
        self.assertEqual(fault(TooMany, hands_on, (1,), (named(1, (4,)),), named(7)), (1000,))
        # The most names of the other union count as further values, those of its other questions do not.
        self.assertEqual([layings(4, 4, 1) > 1000, layings(4, 5, 1) > 1000, layings(4, 0, 1)], [False, True, 15])
        self.assertIsInstance(hands_on((1,), (named(4),), named(4) + named(3)), Covered)
        self.assertEqual(fault(TooMany, hands_on, (1,), (named(4),), named(1) + named(5)), (1000,))
        self.assertEqual(fault(TooMany, hands_on, (1,), (named(1), named(4)), named(4, (3,))), (1000,))
        # With no question in the other union nothing is added, but the values count.
        self.assertTrue(hands_on((1,), (named(7),), ()) == Covered(()))
        self.assertEqual(fault(TooMany, hands_on, (1,), (named(7), named(1, (2,))), ()), (1000,))
        self.assertEqual(fault(TooMany, hands_on, (1,), (EIGHT,), ()), (1000,))

    def test_errors_in_their_order(self):
        def judged(*args):
            return covered_fault(*args, None)

        def unjudged(*args):
            return uncovered_fault(*args, None)

        for function in (hands_on, judged, unjudged):
            self.assertEqual(fault(BadWidths, function, None, None, None), (0,))
            for thing in WRONG_GROUPS:
                self.assertEqual(fault(BadUnions, function, (2,), thing, None), (in_tuples(thing),))
            self.assertEqual(fault(BadUnion, function, (2,), (P, (P[0],) * 7), None), ("many", 0))
            self.assertEqual(fault(BadQuestion, function, (1,), (EIGHT, P), None), ("width", 0))
            self.assertEqual(fault(BadUnion, function, (1,), (EIGHT,), NEVER + EIGHT), ("heads", 1))
            self.assertEqual(fault(BadUnion, function, (1,), (EIGHT,), True), ("many", 0))

    def test_nothing_is_changed_or_kept(self):
        found = unchanged(self, lambda *args: told_by(hands_on(*args)), (2,), (P, Q), P)
        self.assertEqual(found, plain_handing((P, Q), P))
        found = unchanged(self, lambda *args: told_by(hands_on(*args)), (2,), (Q,), P)
        self.assertEqual(found, (0, (0, 0, 1)))


class CoveredFault(unittest.TestCase):
    def setUp(self):
        self.right = hands_on((2,), (P,), Q).rows

    def judged(self, rows, unions=(P,), other=Q):
        return covered_fault((2,), unions, other, Covered(rows))

    def with_second(self, at, thing):
        """Return the rows with another reading in one of them."""
        rows = list(self.right)
        rows[at] = (rows[at][0], thing)
        return tuple(rows)

    def test_any_readings_that_hold_the_rows_are_right(self):
        self.assertIsNone(self.judged(self.right))
        other = (((0, (0, 0)), (0, 0, (0, 0, 0))), ((0, (0, 1)), (0, 0, (1, 0, 1))))
        self.assertIsNone(self.judged(other))
        self.assertIsNone(self.judged((((0, (0, 0)), (1, 0, (0, 0))), other[1]), (P, Q)))
        wide = (((0, (0, 0)), (0, 0, (0, 0, GREATEST))), self.right[1])
        self.assertIsNone(self.judged(wide))
        self.assertIsNone(self.judged((), other=()))

    def test_cases(self):
        first, second = self.right
        for rows in (None, [], list(self.right), (), (first,), (second, first), (first, first), (first, second, second),
                     (list(first), second), (first, first[0]), ((first[0],), second), (first + (1,), second),
                     (5, second), ((first[1], first[0]), second), (((True, (0, 0)), first[1]), second), ("ab", second),
                     (((0, (False, 0)), first[1]), second), (((0, [0, 0]), first[1]), second),
                     (([0, (0, 0)], first[1]), second), (first, ((0, (0, 2)), second[1])), (first, (None, None))):
            self.assertEqual(self.judged(rows), "cases", rows)
        self.assertEqual(self.judged(self.right, other=()), "cases")

    def test_reading(self):
        for thing in (None, 5, "abc", (), [0, 0, (0, 0, 0)], (0, 0), (0, 0, (0, 0, 0), 0), (1, 0, (0, 0, 0)),
                      (-1, 0, (0, 0, 0)), (False, 0, (0, 0, 0)), ("0", 0, (0, 0, 0)), (None, 0, (0, 0, 0)),
                      (0, 1, (0, 0, 0)), (0, -1, (0, 0, 0)), (0, False, (0, 0, 0)), (0, 0, [0, 0, 0]), (0, 0, (0, 0)),
                      (0, 0, (0, 0, 0, 0)), (0, 0, (0, 0, -1)), (0, 0, (0, 0, GREATEST + 1)), (0, 0, (False, 0, 0)),
                      (0, 0, (0, 0, "a")), (0, 0, None)):
            self.assertEqual(self.judged(self.with_second(0, thing)), "reading", thing)
            self.assertEqual(self.judged(self.with_second(1, thing)), "reading", thing)
        # A reading of a union without questions, and one that does not keep a pair.
        self.assertEqual(self.judged(self.with_second(0, (1, 0, ())), (P, ())), "reading")
        apart = (P[0][:2] + ((("a", "c"),),),)
        self.assertEqual(self.judged(self.with_second(0, (1, 0, (0, 0, 0))), (P, apart)), "reading")

    def test_least(self):
        # In P with the question (a, c) by 0(a, c), a reading by two rows is not least.
        both = P + ((("a", "c"), ((0, ("a", "c")),), ()),)
        self.assertEqual(self.judged(self.with_second(1, (1, 0, (0, 1, 0))), (P, both)), None)
        self.assertEqual(self.judged(self.with_second(1, (1, 0, (0, 0, 1))), (P, both)), "least")
        # It is told ahead of the rows, and behind the words of the rows of the result ahead of it.
        self.assertEqual(self.judged(self.with_second(0, (1, 0, (5, 5, 6))), (P, both)), "least")
        rows = (self.with_second(0, (0, 0, (5, 6, 7)))[0], (self.right[1][0], (1, 0, (0, 0, 1))))
        self.assertEqual(self.judged(rows, (P, both)), "rows")
        rows = ((self.right[0][0], (1, 0, (5, 5, 6))), (self.right[1][0], None))
        self.assertEqual(self.judged(rows, (P, both)), "least")

    def test_rows(self):
        for thing in ((0, 0, (1, 1, 1)), (0, 0, (0, 1, 0)), (0, 0, (5, 6, 7))):
            self.assertEqual(self.judged(self.with_second(0, thing)), "rows")
        for thing in ((0, 0, (0, 0, 0)), (0, 0, (0, 1, 2)), (0, 0, (1, 0, 0))):
            self.assertEqual(self.judged(self.with_second(1, thing)), "rows")

    def test_bounds_come_ahead_of_every_word(self):
        self.assertEqual(fault(TooMany, covered_fault, (1,), (named(1),), EIGHT, Covered(None)), (1000,))
        self.assertEqual(fault(TooMany, covered_fault, (1,), (named(4),), named(5), Covered(None)), (1000,))
        self.assertEqual(covered_fault((1,), (named(4),), named(4), Covered(None)), "cases")


class UncoveredFault(unittest.TestCase):
    def judged(self, index, case, unions=(Q,), other=P):
        return uncovered_fault((2,), unions, other, Uncovered(index, case))

    def test_any_reading_that_nothing_holds_is_right(self):
        for case in ((0, 0, 1), (5, 6, 7), (GREATEST, 0, 1), (1, 0, 0)):
            self.assertIsNone(self.judged(0, case))
        self.assertIsNone(self.judged(1, (3, 3, 4), other=(P[0], P[0])))

    def test_reading(self):
        for index in (1, -1, False, True, None, "0", 0.0, [0]):
            self.assertEqual(self.judged(index, (0, 0, 1)), "reading")
        for case in (None, 5, [0, 0, 1], (), (0, 0), (0, 0, 1, 1), (0, 0, True), (0, 0, -1), (0, 0, GREATEST + 1),
                     (0, 0, "a"), "abc"):
            self.assertEqual(self.judged(0, case), "reading")
        self.assertEqual(self.judged(0, (), other=()), "reading")
        self.assertEqual(self.judged(0, (1, 0, 1), other=(P[0][:2] + ((("a", "c"),),),)), "reading")

    def test_least(self):
        both = P + ((("a", "c"), ((0, ("a", "c")),), ()),)
        self.assertEqual(self.judged(0, (0, 0, 1), other=both), "least")
        self.assertIsNone(self.judged(0, (0, 1, 2), other=both))
        # A reading that is not least and whose rows are held is told as not least.
        self.assertEqual(self.judged(0, (0, 0, 1), (P,), both), "least")

    def test_covered(self):
        for case in ((0, 0, 0), (0, 1, 0), (7, 9, 7)):
            self.assertEqual(self.judged(0, case), "covered")
        self.assertEqual(self.judged(0, (5, 6, 7), (Q, P)), "covered")

    def test_bounds_come_ahead_of_every_word(self):
        self.assertEqual(fault(TooMany, uncovered_fault, (1,), (named(1),), EIGHT, Uncovered(None, None)), (1000,))
        self.assertEqual(fault(TooMany, uncovered_fault, (1,), (named(4),), named(5), Uncovered(None, None)), (1000,))
        self.assertEqual(uncovered_fault((1,), (named(4),), named(4), Uncovered(None, None)), "reading")
        # As many values as a reading can have are let.
        self.assertEqual(uncovered_fault((1,), (named(4),), named(4), Uncovered(0, (6, 7, 8, 9))), "least")
        four = ((("a", "b", "c"), tuple((0, (name,)) for name in NAMES[:4]), (("d", "a"), ("d", "b"), ("d", "c"))),)
        self.assertEqual(uncovered_fault((1,), (named(4),), four[:1], Uncovered(0, (6, 7, 8, 9))), None)


class Groups(unittest.TestCase):
    def test_against_hands_on_one_by_one(self):
        greatest, fewer = 0, 0
        for number in range(90):
            unions = some_group(number, 1 + number % 4)
            if number % 3 == 0:
                unions = tuple(union[:1] for union in unions)
            table = tuple(tuple(isinstance(plain_handing((one,), other), tuple) and self.hands(one, other)
                                for other in unions) for one in unions)
            self.assertEqual(unchanged(self, handing_table, WIDTHS, unions), table)
            self.assertTrue(all(cell in (True, False) and isinstance(cell, bool) for row in table for cell in row))
            right = tuple(at for at in range(len(unions)) if all(table[at]))
            self.assertEqual(unchanged(self, greatest_unions, WIDTHS, unions), right)
            greatest += len(right) == 1 < len(unions)
            left = list(range(len(unions)))
            for at in range(len(unions) - 1, -1, -1):
                others = [k for k in left if k != at]
                if others and isinstance(hands_on(WIDTHS, [unions[k] for k in others], unions[at]), Covered):
                    left = others
            self.assertEqual(unchanged(self, enough_unions, WIDTHS, unions), tuple(left))
            fewer += 1 < len(left) < len(unions)
        self.assertGreater(greatest, 5)
        self.assertGreater(fewer, 5)

    def hands(self, one, other):
        """Return whether each least reading of the other union is held by one of the first."""
        return all(plain_covering((one,), held_by(other[index], case)) is not None
                   for index, case in plain_least((one,), other))

    def test_example(self):
        self.assertEqual(handing_table((2,), (P, Q)), ((True, True), (False, True)))
        self.assertEqual(greatest_unions((2,), (P, Q)), (0,))
        self.assertEqual(enough_unions((2,), (P, Q)), (0,))
        self.assertEqual(enough_unions((2,), (Q, P)), (1,))
        # Of equal unions the first one is left, for it is looked at last; all of them are greatest.
        self.assertEqual(enough_unions((2,), (Q, P, P, Q)), (1,))
        self.assertEqual(greatest_unions((2,), (Q, P, P, Q)), (1, 2))
        self.assertEqual(handing_table((2,), (Q, P, P)), ((True, False, False), (True, True, True), (True, True, True)))

    def test_enough_may_be_several_together(self):
        one, two = (((), ((0, ("a",)),), ()),), (((), ((1, ("a",)),), ()),)
        either = (one[0], (((), ((1, (3,)), (0, (3,))), ())))
        heads = ((("a",), ((0, ("a",)),), ()), (("a",), ((1, ("a",)),), ()))
        self.assertEqual(enough_unions((1, 1), (one, two, heads)), (0, 1))
        self.assertEqual(enough_unions((1, 1), (heads, one, two)), (0,))
        self.assertEqual(greatest_unions((1, 1), (one, two)), ())
        self.assertEqual(handing_table((1, 1), (one, either)), ((True, True), (True, True)))

    def test_empty_unions(self):
        self.assertEqual(handing_table((2,), ((), P)), ((True, False), (True, True)))
        self.assertEqual(handing_table((2,), ((),)), ((True,),))
        self.assertEqual(greatest_unions((2,), ((), ())), (0, 1))
        self.assertEqual(enough_unions((2,), ((), ())), (0,))
        self.assertEqual(enough_unions((2,), ((), P, ())), (1,))
        self.assertEqual(enough_unions((2,), ((),)), (0,))

    def test_bounds(self):
        self.assertEqual([layings(5, 0, 1), layings(5, 1, 1), layings(5, 5, 1) > 1000], [52, 203, True])
        five, one = named(5), named(1)
        for function in (handing_table, greatest_unions):
            # A union with itself counts as well.
            self.assertEqual(fault(TooMany, function, (1,), (five,)), (1000,))
            self.assertEqual(fault(TooMany, function, (1,), (one, five)), (1000,))
            self.assertEqual(fault(TooMany, function, (1,), (one, EIGHT)), (1000,))
        # Only what is asked on the way counts.
        self.assertEqual(enough_unions((1,), (five,)), (0,))
        self.assertEqual(enough_unions((1,), (EIGHT,)), (0,))
        self.assertEqual(enough_unions((1,), (five, one)), (0,))
        self.assertEqual(fault(TooMany, enough_unions, (1,), (five, five)), (1000,))
        self.assertEqual(fault(TooMany, enough_unions, (1,), (one, EIGHT)), (1000,))
        self.assertEqual(fault(TooMany, enough_unions, (1,), (EIGHT, one)), (1000,))

    def test_errors_in_their_order(self):
        for function in (handing_table, greatest_unions, enough_unions):
            self.assertEqual(fault(BadWidths, function, (1, 4), None), (1,))
            for thing in WRONG_GROUPS:
                self.assertEqual(fault(BadUnions, function, (2,), thing), (in_tuples(thing),))
            self.assertEqual(fault(BadUnion, function, (1,), (EIGHT, EIGHT, 5)), ("many", 0))
            self.assertEqual(fault(BadQuestion, function, (2,), (P, (P[0], None))), ("form", 0))


class Results(unittest.TestCase):
    def test_they_keep_what_they_are_given(self):
        rows, case = [object()], [object()]
        self.assertIs(Covered(rows).rows, rows)
        self.assertIs(Uncovered(True, case).index, True)
        self.assertIs(Uncovered(True, case).case, case)
        for one, two in itertools.permutations((Covered(()), Covered((1,)), Uncovered(0, ()), Uncovered(1, ()),
                                                Uncovered(0, (1,)), None, ()), 2):
            self.assertTrue(one != two)
            self.assertFalse(one == two)
