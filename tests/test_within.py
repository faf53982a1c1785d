"""[3.1] to [3.4]: unions within unions, least forms."""
import itertools
import unittest

from meetwhere.cases import all_cases
from meetwhere.errors import BadQuestion, BadUnion, BadWidths, TooMany
from meetwhere.questions import union_values
from meetwhere.sorts import Sorts
from meetwhere.within import Outside, are_alike, is_within, least_form, outside_fault
from tests import plain
from tests.plain import fault, unchanged

WIDTHS = (1, 2)
ONE = (("a",), ((0, ("a",)),), ())
BOTH = (("a",), ((0, ("a",)), (1, ("a", "b"))), ())
EIGHT = (("a",), tuple((0, (letter,)) for letter in plain.NAMES), ())


def is_shown(union, other, index, reading):
    """Return whether a reading's answer is no answer of the other union on the reading's rows."""
    given = dict(zip(plain.names_of(union[index]), reading))
    return plain.filled(union[index][0], given) not in plain.answers(other, plain.rows_of(union[index], given))


def first_outside(union, other):
    """Return index and reading of the first case that shows that a union is not within another one, or None."""
    told = tuple(sorted(set(union_values(union)) | set(union_values(other))))
    for index, question in enumerate(union):
        for case in all_cases(question, Sorts((), 1), told):
            if is_shown(union, other, index, case):
                return (index, case)
    return None


def some_two(number):
    """Return two unions made up by number, often with like questions."""
    return (plain.some_union(number, WIDTHS, 1), plain.some_union(number // 2 + 500, WIDTHS, 1))


class Within(unittest.TestCase):
    def test_ordinary(self):
        self.assertIsNone(is_within(WIDTHS, (BOTH,), (ONE,)))
        self.assertEqual(is_within(WIDTHS, (ONE,), (BOTH,)), Outside(0, (0,)))
        self.assertEqual(is_within(WIDTHS, (BOTH, ONE), (BOTH,)), Outside(1, (0,)))
        self.assertIsNone(is_within(WIDTHS, (BOTH, ONE), (BOTH, ONE, ONE)))
        unlike = (ONE[0], ONE[1], (("a", 3),))
        self.assertIsNone(is_within(WIDTHS, (unlike,), (ONE,)))
        self.assertEqual(is_within(WIDTHS, (ONE,), (unlike,)), Outside(0, (3,)))
        self.assertIsNone(is_within(WIDTHS, (ONE,), (unlike, ((3,), ((0, (3,)),), ()))))

    def test_against_plain_answers_on_the_cases(self):
        for number in range(200):
            union, other = some_two(number)
            right = first_outside(union, other)
            found = is_within(WIDTHS, union, other)
            self.assertEqual(None if found is None else (found.index, found.reading), right)
            self.assertEqual(unchanged(self, is_within, WIDTHS, union, other), found)

    def test_against_all_small_stores(self):
        rows = [(0, (v,)) for v in range(2)] + [(1, pair) for pair in itertools.product(range(2), repeat=2)]
        stores = [store for many in range(len(rows) + 1) for store in itertools.combinations(rows, many)]
        for number in range(40):
            union, other = some_two(number)
            if is_within(WIDTHS, union, other) is None:
                for store in stores:
                    self.assertLessEqual(set(plain.answers(union, store)), set(plain.answers(other, store)))

    def test_the_empty_union(self):
        self.assertIsNone(is_within(WIDTHS, (), ()))
        self.assertIsNone(is_within(WIDTHS, (), (ONE,)))
        self.assertEqual(is_within(WIDTHS, (BOTH,), ()), Outside(0, (0, 0)))
        self.assertIsNone(is_within(WIDTHS, ((("a",), ONE[1], (("a", "a"),)),), ()))

    def test_heads_of_unlike_lengths(self):
        none = ((), ONE[1], ())
        self.assertEqual(is_within(WIDTHS, (ONE,), (none,)), Outside(0, (0,)))
        self.assertEqual(is_within(WIDTHS, (none,), (ONE,)), Outside(0, (0,)))
        self.assertIsNone(is_within(WIDTHS, (((), ONE[1], ((4, 4),)),), (ONE,)))

    def test_errors_in_their_order(self):
        for function in (is_within, are_alike):
            self.assertEqual(fault(BadWidths, function, (0,), None, None), (0,))
            self.assertEqual(fault(BadUnion, function, WIDTHS, None, (None,)), ("many", 0))
            self.assertEqual(fault(BadQuestion, function, WIDTHS, (ONE, None), None), ("form", 0))
            self.assertEqual(fault(BadUnion, function, WIDTHS, (EIGHT,), (ONE, ((), ONE[1], ()))), ("heads", 1))
            wrong = [(("a",), ((0, (True,)),), ())]
            self.assertEqual(fault(BadQuestion, function, WIDTHS, (EIGHT,), wrong), ("term", 0))
            self.assertEqual(fault(TooMany, function, WIDTHS, (ONE, EIGHT), ()), (1000,))

    def test_too_many_in_the_union_alone(self):
        self.assertIsNone(is_within(WIDTHS, (ONE,), (EIGHT,)))
        self.assertEqual(fault(TooMany, is_within, WIDTHS, (EIGHT,), (ONE,)), (1000,))
        self.assertEqual(fault(TooMany, are_alike, WIDTHS, (ONE,), (EIGHT,)), (1000,))
        self.assertEqual(fault(TooMany, is_within, WIDTHS, (ONE, (ONE[0], EIGHT[1], (("a", "a"),))), ()), (1000,))

    def test_a_thousand_layings_for_the_values_of_both(self):
        four = (("a",), tuple((0, (letter,)) for letter in "abcd"), ((5, 6),))
        # With four known values four names have 799 layings, with five 1,540.
        for values, right in (((6, 7, 8), True), ((6, 7, 8, 9), False)):
            other = ((("a",), tuple((0, (value,)) for value in values) + ((0, ("a",)),), ()),)
            if right:
                self.assertEqual(is_within(WIDTHS, (four,), other), Outside(0, (5, 5, 5, 5)))
                self.assertIs(are_alike(WIDTHS, (four,), other), False)
            else:
                self.assertEqual(fault(TooMany, is_within, WIDTHS, (four,), other), (1000,))
                self.assertEqual(fault(TooMany, are_alike, WIDTHS, (four,), other), (1000,))
                self.assertEqual(is_within(WIDTHS, other, (four,)), None)


class Faults(unittest.TestCase):
    def test_what_is_found_has_none(self):
        for number in range(100):
            union, other = some_two(number)
            found = is_within(WIDTHS, union, other)
            if found is not None:
                self.assertIsNone(outside_fault(WIDTHS, union, other, found))

    def test_any_reading_that_shows_it_is_right(self):
        for number in range(60):
            union, other = some_two(number)
            for index, question in enumerate(union):
                for given in plain.readings_over(question, (0, 1, 8)):
                    reading = tuple(given.values())
                    right = None if is_shown(union, other, index, reading) else "within"
                    self.assertEqual(outside_fault(WIDTHS, union, other, Outside(index, reading)), right)

    def test_reading(self):
        unlike = (("a",), ((1, ("a", "b")),), (("a", "b"),))
        self.assertIsNone(outside_fault(WIDTHS, (unlike,), (BOTH,), Outside(0, (10 ** 9, 2))))
        for index in (1, -1, 6, True, False, None, "0", 0.0):
            self.assertEqual(outside_fault(WIDTHS, (unlike,), (BOTH,), Outside(index, (1, 2))), "reading")
        for reading in ((), (1,), (1, 2, 3), [1, 2], (2, 2), (True, 2), (-1, 2), (10 ** 9 + 1, 2), None, "ab", 7):
            self.assertEqual(outside_fault(WIDTHS, (unlike,), (BOTH,), Outside(0, reading)), "reading")
        self.assertEqual(outside_fault(WIDTHS, (), (), Outside(0, ())), "reading")

    def test_within(self):
        self.assertEqual(outside_fault(WIDTHS, (BOTH,), (ONE,), Outside(0, (1, 2))), "within")

    def test_no_bound_and_the_errors_of_the_unions(self):
        self.assertIsNone(outside_fault(WIDTHS, (EIGHT,), (BOTH,), Outside(0, (1, 2, 3, 4, 5, 6, 7, 8))))
        self.assertEqual(outside_fault(WIDTHS, (EIGHT,), (ONE,), Outside(0, (1, 2, 3, 4, 5, 6, 7, 8))), "within")
        self.assertEqual(fault(BadWidths, outside_fault, (), (), (), None), (0,))
        self.assertEqual(fault(BadUnion, outside_fault, WIDTHS, 5, None, None), ("many", 0))
        self.assertEqual(fault(BadQuestion, outside_fault, WIDTHS, (), (None,), Outside(0, ())), ("form", 0))

    def test_outside_is_a_result(self):
        reading = [1]
        outside = Outside("x", reading)
        self.assertIs(outside.reading, reading)
        self.assertEqual(outside.index, "x")
        self.assertTrue(Outside(0, (1,)) == Outside(0, (1,)))
        self.assertFalse(Outside(0, (1,)) != Outside(0, (1,)))
        for other in (Outside(1, (1,)), Outside(0, (2,)), (0, (1,)), None, Sorts((), 1)):
            self.assertTrue(Outside(0, (1,)) != other)
            self.assertFalse(Outside(0, (1,)) == other)


class Alike(unittest.TestCase):
    def test_both_ways(self):
        for number in range(120):
            union, other = some_two(number)
            right = first_outside(union, other) is None and first_outside(other, union) is None
            self.assertIs(are_alike(WIDTHS, union, other), right)
            self.assertIs(unchanged(self, are_alike, WIDTHS, union, union), True)
        self.assertIs(are_alike(WIDTHS, (BOTH, ONE), (ONE,)), True)
        self.assertIs(are_alike(WIDTHS, (BOTH,), (ONE,)), False)
        self.assertIs(are_alike(WIDTHS, (ONE,), (BOTH,)), False)
        self.assertIs(are_alike(WIDTHS, (), ((ONE[0], ONE[1], ((1, 1),)),)), True)
        self.assertIs(are_alike(WIDTHS, (ONE,), (((), ONE[1], ()),)), False)


class LeastForm(unittest.TestCase):
    def test_examples(self):
        two = ((0, ("a", "b")), (0, ("a", "c")))
        self.assertEqual(least_form((2,), (("a",), two, ())), (("a",), two[:1], ()))
        self.assertEqual(least_form((2,), (("a",), two, (("b", "c"),))), (("a",), two, (("b", "c"),)))
        three = ((0, ("a", "b")), (0, ("c", "b")), (0, ("a", "d")))
        self.assertEqual(least_form((2,), (("a", "b"), three, ())), (("a", "b"), three[:1], ()))

    def test_of_equal_atoms_the_last_is_struck(self):
        body = ((0, ("a",)), (1, ("a", "a")), (0, ("a",)), (0, ("b",)), (0, ("a",)))
        self.assertEqual(least_form(WIDTHS, (("a",), body, ())), (("a",), body[:2], ()))

    def test_one_atom_stays(self):
        body = ((0, (1,)), (0, (1,)))
        self.assertEqual(least_form(WIDTHS, ((), body, ())), ((), body[:1], ()))
        self.assertEqual(least_form(WIDTHS, ((), ((0, (1,)), (0, (2,)), (0, (3,))), ((4, 4),))),
                         ((), ((0, (1,)),), ((4, 4),)))

    def test_names_of_head_and_pairs_stay(self):
        body = ((0, ("a",)), (0, ("b",)), (0, ("c",)))
        self.assertEqual(least_form(WIDTHS, (("b",), body, ())), (("b",), body[1:2], ()))
        self.assertEqual(least_form(WIDTHS, ((), body, (("c", 4),))), ((), body[2:], (("c", 4),)))
        self.assertEqual(least_form(WIDTHS, ((), body, (("b", "b"),))), ((), body[1:2], (("b", "b"),)))

    def test_alike_and_no_atom_can_be_struck(self):
        for number in range(150):
            question = plain.some_question(number, WIDTHS, 2, 5, 4)
            form = least_form(WIDTHS, question)
            self.assertEqual(unchanged(self, least_form, WIDTHS, question), form)
            self.assertEqual((form[0], form[2]), (question[0], question[2]))
            self.assertTrue(are_alike(WIDTHS, (question,), (form,)))
            self.assertEqual(form, self.plainly(question))
            self.assertEqual(least_form(WIDTHS, form), form)

    def plainly(self, question):
        """Return the least form by the very words of [3.4]."""
        head, body, pairs = question
        for at in range(len(body) - 1, -1, -1):
            fewer = body[:at] + body[at + 1:]
            names = plain.names_of(((), fewer, ()))
            told = [term for term in head + tuple(term for pair in pairs for term in pair) if isinstance(term, str)]
            if fewer and set(told) <= set(names):
                if are_alike(WIDTHS, ((head, fewer, pairs),), (question,)):
                    body = fewer
        return (head, body, pairs)

    def test_errors(self):
        self.assertEqual(fault(BadWidths, least_form, (9,), None), (0,))
        self.assertEqual(fault(BadQuestion, least_form, WIDTHS, (("b",), ((0, ("a",)),), ())), ("head", 0))
        self.assertEqual(fault(TooMany, least_form, WIDTHS, EIGHT), (1000,))
        self.assertEqual(fault(TooMany, least_form, WIDTHS, (EIGHT[0], EIGHT[1], ((1, 1),))), (1000,))
        seven = (("a",), EIGHT[1][:7], ())
        self.assertEqual(least_form(WIDTHS, seven), ONE)
