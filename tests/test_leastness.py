"""[2.7] to [2.11]: lesser and least readings, least cases, least rows, needed kinds."""
import unittest

from meetwhere.asking import answer_of, answers, rows_of
from meetwhere.cases import all_cases
from meetwhere.errors import BadTold, NoAnswer, TooMany
from meetwhere.leastness import is_least, least_cases, least_rows, lesser_reading, needed_kinds
from meetwhere.questions import names_of, union_values
from meetwhere.sorts import Sorts
from tests import plain
from tests.plain import fault

WIDTHS = (1, 2)
EXAMPLE = (("a",), ((0, ("a", "b")), (0, ("a", "c"))), ())
EIGHT = ((), tuple((0, (letter,)) for letter in plain.NAMES), ())


def plain_lesser(union, index, reading):
    """Return the first lesser reading, by going through all readings with the values of the rows."""
    given = dict(zip(plain.names_of(union[index]), reading))
    rows = plain.rows_of(union[index], given)
    answer = plain.filled(union[index][0], given)
    for at, question in enumerate(union):
        for other in plain.readings_over(question, sorted({value for _, values in rows for value in values})):
            if plain.filled(question[0], other) == answer and set(plain.rows_of(question, other)) < set(rows):
                return (at, tuple(other.values()))
    return None


class Lesser(unittest.TestCase):
    def test_example(self):
        self.assertEqual(lesser_reading((EXAMPLE,), 0, (0, 0, 1)), (0, (0, 0, 0)))
        self.assertIsNone(lesser_reading((EXAMPLE,), 0, (0, 0, 0)))
        self.assertIs(is_least((EXAMPLE,), 0, (0, 1, 1)), True)
        self.assertIs(is_least((EXAMPLE,), 0, (0, 1, 2)), False)

    def test_another_question_of_the_union(self):
        both = (("a",), ((0, ("a",)), (1, ("a", "a"))), ())
        one = (("b",), ((0, ("b",)),), ())
        self.assertIsNone(lesser_reading((both,), 0, (4,)))
        self.assertEqual(lesser_reading((both, one), 0, (4,)), (1, (4,)))
        self.assertEqual(lesser_reading((both, one, one), 0, (4,)), (1, (4,)))
        self.assertIsNone(lesser_reading((both, one), 1, (4,)))
        self.assertIsNone(lesser_reading((both, ((5,), one[1], ())), 0, (4,)))
        self.assertEqual(lesser_reading((both, ((5,), one[1], ())), 0, (5,)), (1, (5,)))

    def test_equal_rows_are_not_lesser(self):
        one = (("a",), ((0, ("a",)),), ())
        self.assertIsNone(lesser_reading((one, one), 0, (4,)))
        self.assertIsNone(lesser_reading((one, one), 1, (4,)))

    def test_against_a_plain_going_through_readings(self):
        for number in range(250):
            union = plain.some_union(number, WIDTHS, 2)
            for index, question in enumerate(union):
                for given in plain.readings_over(question, (0, 1, 7)):
                    reading = tuple(given.values())
                    found = plain_lesser(union, index, reading)
                    self.assertEqual(lesser_reading(union, index, reading), found, (union, index, reading))
                    self.assertIs(is_least(union, index, reading), found is None)

    def test_longer_questions(self):
        for number in range(20):
            question = plain.some_question(number, (2,), 1, 6, 5)
            for given in plain.readings_over(question, (0, 1)):
                reading = tuple(given.values())
                self.assertEqual(lesser_reading((question,), 0, reading), plain_lesser((question,), 0, reading))

    def test_eight_names(self):
        self.assertEqual(lesser_reading((EIGHT,), 0, (1, 2, 3, 4, 5, 6, 7, 8)), (0, (1,) * 8))
        self.assertIs(is_least((EIGHT,), 0, (3,) * 8), True)


class LeastCases(unittest.TestCase):
    def test_example(self):
        self.assertEqual(list(least_cases((EXAMPLE,), Sorts((), 1), ())), [(0, (0, 0, 0)), (0, (0, 1, 1))])

    def test_against_a_plain_going_through_readings(self):
        for number in range(120):
            union = plain.some_union(number, WIDTHS, 2)
            sorts = Sorts(((), (1,), (0, 3))[number % 3], 1 + number % 2)
            told = tuple(sorted(set(union_values(union)) | set(((), (5,))[number % 2])))
            right = [(index, case) for index, question in enumerate(union)
                     for case in all_cases(question, sorts, told) if plain_lesser(union, index, case) is None]
            self.assertEqual(list(least_cases(union, sorts, told)), right)
            self.assertEqual(list(least_cases(union, sorts, list(told))), right)

    def test_every_answer_is_that_of_a_least_reading(self):
        for number in range(60):
            union = plain.some_union(number, WIDTHS, 1)
            store = plain.some_store(number, WIDTHS, 1, 6)
            found = set()
            for index, question in enumerate(union):
                for reading in plain.readings(question, store):
                    if is_least(union, index, reading):
                        found.add(answer_of(question, reading))
            self.assertEqual(tuple(sorted(found)), answers(union, store))

    def test_the_empty_union_and_unions_without_readings(self):
        self.assertEqual(list(least_cases((), Sorts((), 2), ())), [])
        self.assertEqual(list(least_cases((((), EXAMPLE[1], (("a", "a"),)),), Sorts((), 2), ())), [])

    def test_errors(self):
        sorts = Sorts((), 1)
        self.assertEqual(fault(BadTold, least_cases, (EXAMPLE, EIGHT), sorts, (2, 1)), ((2, 1),))
        self.assertEqual(fault(BadTold, least_cases, (), sorts, [True]), ((True,),))
        self.assertEqual(fault(TooMany, least_cases, (((), EXAMPLE[1], ()), EIGHT), sorts, ()), (1000,))
        told = (((), ((0, (8,)),), ()), ((), ((0, (4,)),), ()))
        self.assertEqual(fault(BadTold, least_cases, told, sorts, (8,)), ((8,),))
        self.assertEqual(list(least_cases(told, sorts, (4, 8))), [(0, ()), (1, ())])

    def test_a_thousand_layings_and_just_more(self):
        union = (((1,), ((0, ("a",)), (0, (1,))), ()),)
        found = list(least_cases(union, Sorts((), 6), tuple(range(994))))
        self.assertEqual(found, [(0, (1,))])
        self.assertEqual(len(list(least_cases(((("a",), ((0, ("a",)),), ()),), Sorts((), 6), tuple(range(994))))), 1000)
        self.assertEqual(fault(TooMany, least_cases, union, Sorts((), 6), tuple(range(995))), (1000,))
        self.assertEqual(fault(TooMany, least_cases, union, Sorts((994,), 6), list(range(994))), (1000,))

    def test_too_many_comes_ahead_of_the_first_item(self):
        with self.assertRaises(TooMany):
            for _ in least_cases((((), EXAMPLE[1], ()), EIGHT), Sorts((), 1), ()):
                self.fail("an item came first")


class LeastRows(unittest.TestCase):
    def test_rows_are_struck_from_the_first_on(self):
        store = ((0, (1, 2)), (0, (1, 3)), (0, (2, 2)))
        self.assertEqual(least_rows((EXAMPLE,), store, (1,)), ((0, (1, 3)),))
        self.assertEqual(least_rows((EXAMPLE,), store, (2,)), ((0, (2, 2)),))

    def test_against_plain_striking(self):
        for number in range(120):
            union = plain.some_union(number, WIDTHS, 2)
            store = plain.some_store(number, WIDTHS, 2, 9)
            for answer in plain.answers(union, store):
                left = store
                for row in store:
                    fewer = tuple(one for one in left if one != row)
                    left = fewer if answer in plain.answers(union, fewer) else left
                self.assertEqual(least_rows(union, store, answer), left)
                for index, question in enumerate(union):
                    for reading in plain.readings(question, left):
                        if answer_of(question, reading) == answer:
                            self.assertEqual(rows_of(question, reading), left)
                            self.assertTrue(is_least(union, index, reading))

    def test_no_answer(self):
        store = ((0, (1, 2)), (0, (0, 3)))
        for thing in ((2,), (), (1, 1), (True,), (False,), (1.0,), (None,), ("a",), None, 1, "1", True, {1: 1}):
            self.assertEqual(fault(NoAnswer, least_rows, (EXAMPLE,), store, thing), (thing,))
        self.assertEqual(fault(NoAnswer, least_rows, (EXAMPLE,), store, [1]), ((1,),))
        self.assertEqual(fault(NoAnswer, least_rows, (EXAMPLE,), store, ([1],)), (((1,),),))
        self.assertEqual(fault(NoAnswer, least_rows, (), store, ()), ((),))
        self.assertEqual(fault(NoAnswer, least_rows, (EXAMPLE,), (), (1,)), ((1,),))
        self.assertEqual(fault(NoAnswer, least_rows, (((), EXAMPLE[1], ()),), store, []), ((),))

    def test_the_empty_head(self):
        store = ((0, (1, 2)), (0, (3, 4)))
        self.assertEqual(least_rows((((), EXAMPLE[1], ()),), store, ()), store[1:])


class Needed(unittest.TestCase):
    def test_kinds_of_the_least_cases(self):
        self.assertEqual(needed_kinds((EXAMPLE,), Sorts((), 2)),
                         ((0, (0, 0)), (0, (0, 1)), (0, (1, 0)), (0, (1, 1))))
        self.assertEqual(needed_kinds((), Sorts((1,), 2)), ())
        marked = (((), ((0, (5, "a")), (0, ("b", "b"))), ()),)
        self.assertEqual(needed_kinds(marked, Sorts((5,), 1)), ((0, (0, 0)), (0, (0, 1)), (0, (1, 1))))

    def test_against_plain_least_readings(self):
        for number in range(80):
            union = plain.some_union(number, WIDTHS, 2)
            sorts = Sorts(((), (1,), (0, 3))[number % 3], 1 + number % 2)
            kinds = set()
            for index, question in enumerate(union):
                for case in all_cases(question, sorts, union_values(union)):
                    if plain_lesser(union, index, case) is None:
                        rows = plain.rows_of(question, dict(zip(names_of(question), case)))
                        kinds |= {(table, tuple(sorts.sort_of(value) for value in values)) for table, values in rows}
            self.assertEqual(needed_kinds(union, sorts), tuple(sorted(kinds)))

    def test_too_many(self):
        self.assertEqual(fault(TooMany, needed_kinds, (((), EXAMPLE[1], ()), EIGHT), Sorts((), 1)), (1000,))
        self.assertEqual(fault(TooMany, needed_kinds, (EIGHT[:2] + ((("a", "a"),),),), Sorts((), 1)), (1000,))
