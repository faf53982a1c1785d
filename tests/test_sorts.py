"""[2.1], [2.2]: sorts of values."""
import unittest

from meetwhere.errors import BadSorts, BadValue, NoSort
from meetwhere.sorts import Sorts
from tests.plain import GREATEST, NO_SEQUENCES, NO_VALUES, fault, unchanged


class Made(unittest.TestCase):
    def test_attributes(self):
        sorts = Sorts([2, 5], 3)
        self.assertEqual((sorts.named, sorts.modulus, sorts.many), ((2, 5), 3, 5))
        sorts = Sorts((), 1)
        self.assertEqual((sorts.named, sorts.modulus, sorts.many), ((), 1, 1))
        sorts = Sorts((0, 1, 2, 3, 4, 5, 6, GREATEST), 6)
        self.assertEqual((sorts.many, len(sorts.named)), (14, 8))

    def test_a_list_is_not_kept(self):
        named = [1, 2]
        sorts = Sorts(named, 2)
        named.clear()
        self.assertEqual(sorts.named, (1, 2))

    def test_named(self):
        wrong = [(1, 2, value) for value in NO_VALUES] + [[value] for value in NO_VALUES]
        for named in wrong + list(NO_SEQUENCES) + [(2, 1), (1, 1), (0, 1, 3, 2), tuple(range(9)), {1: 2}]:
            self.assertEqual(fault(BadSorts, Sorts, named, 2), ("named",))
            self.assertEqual(fault(BadSorts, Sorts, named, 0), ("named",))

    def test_modulus(self):
        for modulus in (0, 7, -1, True, False, 1.0, "1", None, (1,), [2]):
            self.assertEqual(fault(BadSorts, Sorts, (1,), modulus), ("modulus",))

    def test_equal(self):
        self.assertTrue(Sorts([1, 2], 3) == Sorts((1, 2), 3))
        self.assertFalse(Sorts([1, 2], 3) != Sorts((1, 2), 3))
        for other in (Sorts((1,), 3), Sorts((1, 2), 2), Sorts((), 3), ((1, 2), 3), None, 3, "x", object()):
            self.assertFalse(Sorts((1, 2), 3) == other)
            self.assertTrue(Sorts((1, 2), 3) != other)


class SortOf(unittest.TestCase):
    def test_every_value_has_its_sort(self):
        for named in ((), (0,), (1, 4, 7), (GREATEST,), (0, 1, 2, 3, 4, 5, 6, 7)):
            for modulus in range(1, 7):
                sorts = Sorts(named, modulus)
                for value in list(range(20)) + [GREATEST - 1, GREATEST]:
                    right = named.index(value) if value in named else len(named) + value % modulus
                    self.assertEqual(sorts.sort_of(value), right)

    def test_no_value(self):
        for thing in NO_VALUES:
            if not isinstance(thing, list):
                self.assertEqual(fault(BadValue, Sorts((1,), 2).sort_of, thing), (thing,))
        self.assertEqual(fault(BadValue, Sorts((1,), 2).sort_of, [1]), ((1,),))

    def test_kind_of(self):
        sorts = Sorts((3,), 2)
        self.assertEqual(sorts.kind_of((4, (3, 4, 5))), (4, (0, 1, 2)))
        self.assertEqual(sorts.kind_of((0, (1,))), (0, (2,)))
        self.assertEqual(unchanged(self, sorts.kind_of, (1, (3, 3))), (1, (0, 0)))


class ValueOf(unittest.TestCase):
    def test_named_sorts_have_one_value(self):
        sorts = Sorts((3, 8), 2)
        self.assertEqual((sorts.value_of(0, 0), sorts.value_of(1, 0)), (3, 8))
        self.assertEqual(sorts.value_of(1, 0, (3, 9)), 8)
        self.assertIsNone(sorts.value_of(0, 1))
        self.assertIsNone(sorts.value_of(0, 99))
        self.assertIsNone(sorts.value_of(0, 0, [9, 3]))

    def test_remainder_sorts_count_on(self):
        for named in ((), (0,), (1, 4, 7), tuple(range(8))):
            for modulus in (1, 2, 6):
                sorts = Sorts(named, modulus)
                for remainder in range(modulus):
                    for avoided in ((), (3, 0, 2), [12, 5, 5, 1], list(reversed(range(30))), tuple(range(2000))):
                        left = [value for value in range(remainder, 4000, modulus)
                                if value not in named and value not in avoided]
                        for number in (0, 1, 7, 99):
                            found = sorts.value_of(len(named) + remainder, number, avoided)
                            self.assertEqual(found, left[number])

    def test_avoided_may_be_left_out_and_is_not_changed(self):
        sorts = Sorts((), 3)
        self.assertEqual(sorts.value_of(2, 4), 14)
        avoided = [5, 2]
        self.assertEqual(sorts.value_of(2, 0, avoided), 8)
        self.assertEqual(avoided, [5, 2])

    def test_no_sort(self):
        for thing in (-1, 4, True, False, 1.0, None, "0", (1,)):
            self.assertEqual(fault(NoSort, Sorts((3, 8), 2).value_of, thing, 0), (thing,))
        self.assertEqual(fault(NoSort, Sorts((), 1).value_of, 1, 0, ()), (1,))
