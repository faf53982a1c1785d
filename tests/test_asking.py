"""[1.6], [1.7]: rows and answers of readings; readings, answers and counts on a store."""
import unittest

from meetwhere.asking import (answer_of, answers, count_readings, counted, is_answered, readings, readings_for,
                              rows_of, union_readings)
from tests import plain

WIDTHS = (1, 2, 3)
PATH = (("a", "c"), ((1, ("a", "b")), (1, ("b", "c"))), ())


class OneReading(unittest.TestCase):
    def test_rows_are_a_store(self):
        self.assertEqual(rows_of(PATH, (5, 4, 3)), ((1, (4, 3)), (1, (5, 4))))
        self.assertEqual(rows_of(PATH, (2, 2, 2)), ((1, (2, 2)),))
        self.assertEqual(rows_of(((), ((0, (7,)), (0, (3,))), ()), ()), ((0, (3,)), (0, (7,))))

    def test_answer(self):
        self.assertEqual(answer_of(PATH, (5, 4, 3)), (5, 3))
        self.assertEqual(answer_of(((), ((0, ("a",)),), ()), (1,)), ())
        self.assertEqual(answer_of((("a", 9, "a"), ((0, ("a",)),), ()), (1,)), (1, 9, 1))

    def test_pairs_need_not_be_kept(self):
        question = (("a", "b"), ((1, ("a", "b")),), (("a", "b"), (1, 1)))
        self.assertEqual(rows_of(question, (2, 2)), ((1, (2, 2)),))
        self.assertEqual(answer_of(question, (2, 2)), (2, 2))

    def test_against_plain_filling(self):
        for number in range(60):
            question = plain.some_question(number, WIDTHS, 2)
            for given in plain.readings_over(question, (0, 2, 7)):
                reading = tuple(given.values())
                self.assertEqual(rows_of(question, reading), plain.rows_of(question, given))
                self.assertEqual(answer_of(question, reading), plain.filled(question[0], given))


class OnStores(unittest.TestCase):
    def test_example(self):
        store = ((1, (0, 1)), (1, (1, 0)), (1, (1, 2)))
        self.assertEqual(list(readings(PATH, store)), [(0, 1, 0), (0, 1, 2), (1, 0, 1)])
        self.assertEqual(count_readings(PATH, store), 3)
        self.assertEqual(counted((("b",), PATH[1], ()), store), (((0,), 1), ((1,), 2)))
        self.assertEqual(answers((PATH,), store), ((0, 0), (0, 2), (1, 1)))
        ends = (("c", "a"), PATH[1], ())
        self.assertEqual(answers((PATH, ends), store), ((0, 0), (0, 2), (1, 1), (2, 0)))
        self.assertEqual(list(union_readings((PATH, ends), store)),
                         [(0, (0, 1, 0)), (0, (0, 1, 2)), (0, (1, 0, 1)),
                          (1, (0, 1, 0)), (1, (0, 1, 2)), (1, (1, 0, 1))])

    def test_against_a_plain_going_through_all_values(self):
        for number in range(400):
            question = plain.some_question(number, WIDTHS, 3)
            store = plain.some_store(number, WIDTHS, 3, 14)
            found = plain.readings(question, store)
            self.assertEqual(list(readings(question, store)), found, (question, store))
            self.assertEqual(count_readings(question, store), len(found))
            self.assertEqual(counted(question, store), plain.counted(question, store))
            self.assertEqual(answers((question,), store), plain.answers((question,), store))

    def test_longer_questions_on_one_table(self):
        for number in range(60):
            question = plain.some_question(number, (2,), 2, 6, 6)
            store = plain.some_store(number, (2,), 2, 9)
            found = plain.readings(question, store)
            self.assertEqual(list(readings(question, store)), found)
            self.assertEqual(count_readings(question, store), len(found))
            self.assertEqual(counted(question, store), plain.counted(question, store))

    def test_unions_against_a_plain_going_through_all_values(self):
        for number in range(150):
            union = plain.some_union(number, WIDTHS, 2)
            store = plain.some_store(number, WIDTHS, 2, 14)
            found = [(at, reading) for at, question in enumerate(union) for reading in plain.readings(question, store)]
            self.assertEqual(list(union_readings(union, store)), found)
            self.assertEqual(answers(union, store), plain.answers(union, store))

    def test_readings_for_an_answer(self):
        for number in range(150):
            question = plain.some_question(number, WIDTHS, 2)
            store = plain.some_store(number, WIDTHS, 2, 12)
            known = plain.answers((question,), store)
            for answer in known + ((), (0,), (9,), (0, 1), (1, 1), (0, 0, 0)):
                found = [reading for reading in readings(question, store) if answer_of(question, reading) == answer]
                self.assertEqual(list(readings_for(question, store, answer)), found)
                self.assertIs(is_answered((question,), store, answer), answer in known)
        self.assertIs(is_answered((), (), ()), False)

    def test_the_empty_union_and_the_empty_store(self):
        self.assertEqual(answers((), ((0, (1,)),)), ())
        self.assertEqual(list(union_readings((), ((0, (1,)),))), [])
        self.assertEqual(list(readings(PATH, ())), [])
        self.assertEqual(count_readings(PATH, ()), 0)
        self.assertEqual(counted(PATH, ()), ())
        self.assertEqual(answers((PATH,), ()), ())

    def test_the_empty_head(self):
        question = ((), ((0, ("a",)),), (("a", 1),))
        self.assertEqual(answers((question,), ((0, (1,)),)), ())
        self.assertEqual(answers((question,), ((0, (2,)),)), ((),))
        self.assertEqual(counted(question, ((0, (1,)), (0, (2,)), (0, (3,)))), (((), 2),))

    def test_questions_without_names(self):
        body = ((0, (1,)), (1, (1, 2)))
        store = ((0, (1,)), (1, (1, 2)))
        self.assertEqual(list(readings(((4,), body, ()), store)), [()])
        self.assertEqual(counted(((4,), body, ((1, 2),)), store), (((4,), 1),))
        self.assertEqual(list(readings(((4,), body, ()), store[:1])), [])
        self.assertEqual(list(readings(((4,), body, ((5, 5),)), store)), [])
        self.assertEqual(count_readings(((4,), body, ((5, 5),)), store), 0)

    def test_pairs_of_equal_terms_let_no_reading(self):
        for pair in (("a", "a"), (3, 3), ("b", "b")):
            question = (("a",), ((1, ("a", "b")),), (pair,))
            store = ((1, (1, 2)), (1, (3, 3)))
            self.assertEqual(list(readings(question, store)), [])
            self.assertEqual(count_readings(question, store), 0)
            self.assertEqual(counted(question, store), ())
            self.assertEqual(answers((question,), store), ())

    def test_names_that_stand_twice_in_an_atom(self):
        question = (("a",), ((2, ("a", "b", "a")),), ())
        store = ((2, (1, 2, 1)), (2, (1, 2, 3)), (2, (4, 4, 4)))
        self.assertEqual(list(readings(question, store)), [(1, 2), (4, 4)])

    def test_sixty_rows_and_eight_atoms(self):
        store = tuple((0, (k,)) for k in range(60))
        question = (("a",), tuple((0, (letter,)) for letter in plain.NAMES), ())
        self.assertEqual(count_readings(question, store), 60 ** 8)
        self.assertEqual(counted(question, store), tuple(((k,), 60 ** 7) for k in range(60)))
        self.assertEqual(answers((question,) * 6, store), tuple((k,) for k in range(60)))
        unlike = (question[0], question[1], tuple(zip("abcdefg", "bcdefgh")))
        self.assertEqual(count_readings(unlike, store), 60 * 59 ** 7)

    def test_more_than_sixty_rows(self):
        store = tuple((1, (k, k + 1)) for k in range(200))
        self.assertEqual(list(readings(PATH, store)), [(k, k + 1, k + 2) for k in range(199)])

    def test_what_is_returned_is_in_tuples(self):
        store = ((1, (0, 1)), (1, (1, 0)))
        for thing in (rows_of(PATH, (0, 1, 0)), answer_of(PATH, (0, 1, 0)), tuple(readings(PATH, store)),
                      counted(PATH, store), answers((PATH,), store), tuple(union_readings((PATH,), store))):
            self.assertIsInstance(thing, tuple)
            self.assertTrue(plain.is_deep_tuple(thing))
