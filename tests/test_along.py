"""[1.8]: other values and other names."""
import random
import unittest

from meetwhere.along import renamed_store, renamed_union, with_names
from meetwhere.asking import answers
from meetwhere.errors import BadLetters, BadMoves
from meetwhere.questions import check_union
from meetwhere.stores import check_store
from tests import plain
from tests.plain import GREATEST, NO_SEQUENCES, NO_VALUES, fault

STORE = ((0, (1,)), (0, (2,)), (1, (2, 7)), (1, (9, 1)))
QUESTION = (("a", 1), ((1, ("a", 2)), (1, (7, "b"))), ((1, 2), ("a", 9)))


class Moves(unittest.TestCase):
    def test_a_store(self):
        moves = ((1, 2), (2, 9), (9, 1), (5, 5))
        store = ((0, (2,)), (0, (9,)), (1, (1, 2)), (1, (9, 7)))
        self.assertEqual(renamed_store(STORE, moves), store)
        self.assertEqual(renamed_store(STORE, [list(move) for move in moves]), store)
        self.assertEqual(renamed_store((), moves), ())
        self.assertEqual(renamed_store(STORE, ()), STORE)
        self.assertEqual(renamed_store(((0, (GREATEST,)),), ((0, GREATEST), (GREATEST, 0))), ((0, (0,)),))

    def test_a_union(self):
        moves = ((1, 2), (2, 9), (9, 1))
        question = (("a", 2), ((1, ("a", 9)), (1, (7, "b"))), ((2, 9), ("a", 1)))
        self.assertEqual(renamed_union((QUESTION, QUESTION), moves), (question, question))
        self.assertEqual(renamed_union((), moves), ())
        self.assertEqual(renamed_union((QUESTION,), []), (QUESTION,))

    def test_answers_move_along(self):
        for number in range(60):
            made = random.Random(number)
            widths = (1, 2)
            values = list(range(4))
            news = made.sample(values, 4)
            moves = tuple(zip(values, news))
            union = plain.some_union(number, widths, 3)
            store = plain.some_store(number, widths, 3, 9)
            moved = renamed_store(store, moves)
            asked = renamed_union(union, moves)
            self.assertEqual(check_store(widths, moved), moved)
            self.assertEqual(check_union(widths, asked), asked)
            found = tuple(sorted(tuple(news[v] for v in answer) for answer in answers(union, store)))
            self.assertEqual(answers(asked, moved), found)
            back = tuple((new, old) for old, new in moves)
            self.assertEqual(renamed_store(moved, back), store)
            self.assertEqual(renamed_union(asked, back), union)

    def test_wrong_moves(self):
        for function, thing in ((renamed_store, STORE), (renamed_union, (QUESTION,))):
            for moves in NO_SEQUENCES:
                self.assertEqual(fault(BadMoves, function, thing, moves), (0,))
            for move in tuple([(1, value) for value in NO_VALUES]) + tuple([(value, 1) for value in NO_VALUES]):
                self.assertEqual(fault(BadMoves, function, thing, ((3, 4), move, None)), (1,))
            for move in NO_SEQUENCES + ((), (1,), (1, 2, 3), (3, 5), [3, 3]):
                self.assertEqual(fault(BadMoves, function, thing, [(3, 4), move]), (1,))
            self.assertEqual(fault(BadMoves, function, thing, ((1, 2),)), (1,))
            self.assertEqual(fault(BadMoves, function, thing, ((1, 2), (2, 3))), (2,))
            self.assertEqual(fault(BadMoves, function, thing, ((1, 2), (2, 2))), (2,))
            self.assertEqual(fault(BadMoves, function, thing, ((1, 1), (2, 3), (3, 3))), (3,))
            self.assertEqual(fault(BadMoves, function, thing, ((1, 2), (2, 9), (1, 3))), (2,))

    def test_nothing_is_changed_or_kept(self):
        moves = [[1, 2], [2, 1]]
        store = renamed_store(STORE, moves)
        union = renamed_union((QUESTION,), moves)
        self.assertEqual(moves, [[1, 2], [2, 1]])
        plain.wreck(moves)
        self.assertEqual(store, ((0, (1,)), (0, (2,)), (1, (1, 7)), (1, (9, 2))))
        self.assertEqual(union, ((("a", 2), ((1, ("a", 1)), (1, (7, "b"))), ((2, 1), ("a", 9))),))
        self.assertTrue(plain.is_deep_tuple(store) and plain.is_deep_tuple(union))


class Letters(unittest.TestCase):
    def test_names_in_the_order_of_the_body(self):
        question = (("b", "h"), ((1, ("h", "b")), (1, ("b", 3))), (("h", 4),))
        self.assertEqual(with_names(question, "bh"), (("h", "b"), ((1, ("b", "h")), (1, ("h", 3))), (("b", 4),)))
        self.assertEqual(with_names(question, "ac"), (("c", "a"), ((1, ("a", "c")), (1, ("c", 3))), (("a", 4),)))
        self.assertEqual(with_names(question, "hb"), question)

    def test_no_names_and_eight(self):
        self.assertEqual(with_names(((1,), ((0, (2,)),), ()), ""), ((1,), ((0, (2,)),), ()))
        question = ((), tuple((0, (letter,)) for letter in "abcdefgh"), ())
        self.assertEqual(with_names(question, "hgfedcba"), ((), tuple((0, (letter,)) for letter in "hgfedcba"), ()))

    def test_wrong_letters(self):
        question = (("a",), ((1, ("a", "b")),), ())
        for thing in ("", "a", "abc", "aab", "abab", "aa", "ai", "AB", "a ", None, 2, ("c", "d"), b"ab", True):
            self.assertEqual(fault(BadLetters, with_names, question, thing), (thing,))
        self.assertEqual(fault(BadLetters, with_names, question, ["c", "d"]), (("c", "d"),))
        self.assertEqual(fault(BadLetters, with_names, ((), ((0, (1,)),), ()), ()), ((),))
        self.assertEqual(fault(BadLetters, with_names, ((), ((0, (1,)),), ()), "a"), ("a",))

    def test_new_names_ask_alike(self):
        for number in range(40):
            question = plain.some_question(number, (1, 2), 3)
            letters = "hgfedcba"[:len(plain.names_of(question))]
            store = plain.some_store(number, (1, 2), 3, 9)
            self.assertEqual(answers((with_names(question, letters),), store), answers((question,), store))
