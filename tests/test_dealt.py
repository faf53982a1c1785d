"""[4.8] to [4.10]: what the hands hold, answer and count; and what [2.10] says of dealings."""
import itertools
import unittest

from meetwhere.dealings import Dealing, all_kinds, everywhere
from meetwhere.dealt import answers_after, answers_by_hand, answers_together, counted_together, dealt_stores, undealt
from meetwhere.errors import BadLost, BadQuestion, BadStore, BadUnion
from meetwhere.leastness import needed_kinds
from meetwhere.rightness import is_right
from meetwhere.sorts import Sorts
from tests import plain
from tests.plain import NO_SEQUENCES, fault, unchanged

WIDTHS = (1, 2)
EXAMPLE = Dealing((2,), Sorts((), 2), 2, [((0, (0, 0)), (0,)), ((0, (0, 1)), (0, 1)), ((0, (1, 0)), (1, 0)),
                                          ((0, (1, 1)), [1])])
PATH = (("a", "c"), ((0, ("a", "b")), (0, ("b", "c"))), ())
STORE = ((0, (0, 1)), (0, (1, 0)))


def settings(many, hands=(1, 2, 3, 8)):
    """Yield unions, dealings and stores made up by number."""
    for number in range(many):
        dealing = plain.some_dealing(number, WIDTHS, plain.some_sorts(number, 3), hands[number % len(hands)], 0.7)
        yield plain.some_union(number, WIDTHS, 2), dealing, plain.some_store(number, WIDTHS, 3, 9)


class Example(unittest.TestCase):
    def test_rows(self):
        self.assertEqual(EXAMPLE((0, (4, 7))), (0, 1))
        self.assertEqual(dealt_stores(EXAMPLE, STORE), (STORE, STORE))

    def test_answers_and_counts(self):
        self.assertEqual(answers_by_hand((PATH,), EXAMPLE, STORE), (((0, 0), (1, 1)), ((0, 0), (1, 1))))
        self.assertEqual(answers_together((PATH,), EXAMPLE, STORE), ((0, 0), (1, 1)))
        self.assertEqual(counted_together(PATH, EXAMPLE, STORE), (((0, 0), 2), ((1, 1), 2)))


class Stores(unittest.TestCase):
    def test_what_the_hands_hold(self):
        for _, dealing, store in settings(80):
            parts = unchanged(self, dealt_stores, dealing, store)
            self.assertEqual(parts, tuple(plain.at_hand(dealing, store, hand) for hand in range(dealing.hands)))
            left = tuple(row for row in store if not any(row in part for part in parts))
            self.assertEqual(unchanged(self, undealt, dealing, store), left)

    def test_the_empty_store_and_a_full_one(self):
        dealing = everywhere((2,), Sorts((3,), 2), 8)
        full = tuple((0, (v, w)) for v in range(6) for w in range(10))
        self.assertEqual(dealt_stores(dealing, ()), ((),) * 8)
        self.assertEqual(dealt_stores(dealing, full), (full,) * 8)
        self.assertEqual(undealt(dealing, full), ())
        self.assertEqual(undealt(dealing, ()), ())
        self.assertEqual(undealt(dealing.without((7, 6, 5, 4, 3, 2, 1, 0)), full[::-1]), full)
        self.assertEqual(dealt_stores(dealing, list(full[::-1])), (full,) * 8)

    def test_stores_that_are_none(self):
        for function in (dealt_stores, undealt):
            for thing in NO_SEQUENCES:
                self.assertEqual(fault(BadStore, function, EXAMPLE, thing), (0, "many"))
            self.assertEqual(fault(BadStore, function, EXAMPLE, [STORE[0]] * 61), (0, "many"))
            self.assertEqual(fault(BadStore, function, EXAMPLE, STORE + ((0, (1, True)),)), (2, "value"))
            self.assertEqual(fault(BadStore, function, EXAMPLE, ((1, (1,)),)), (0, "table"))


class Answers(unittest.TestCase):
    def test_against_plain_answers(self):
        for union, dealing, store in settings(150):
            by_hand = unchanged(self, answers_by_hand, union, dealing, store)
            self.assertEqual(by_hand, tuple(plain.answers(union, part) for part in dealt_stores(dealing, store)))
            found = unchanged(self, answers_together, union, dealing, store)
            self.assertEqual(found, tuple(sorted({answer for part in by_hand for answer in part})))
            self.assertLessEqual(set(found), set(plain.answers(union, store)))

    def test_more_rows_and_more_hands_lose_nothing(self):
        for number, (union, dealing, store) in enumerate(settings(80)):
            found = set(answers_together(union, dealing, store))
            self.assertLessEqual(set(answers_together(union, dealing, store[:-1])), found)
            wider = dealing | plain.some_dealing(number + 500, WIDTHS, dealing.sorts, dealing.hands)
            self.assertLessEqual(found, set(answers_together(union, wider, store)))

    def test_lost_hands(self):
        for number, (union, dealing, store) in enumerate(settings(60, (1, 2, 3))):
            for many in range(dealing.hands + 1):
                for lost in itertools.permutations(range(dealing.hands), many):
                    found = answers_after(union, dealing, store, list(lost))
                    self.assertEqual(found, answers_together(union, dealing.without(lost), store))
                    if many == 0:
                        self.assertEqual(found, answers_together(union, dealing, store))
                    if many == dealing.hands:
                        self.assertEqual(found, ())
        self.assertEqual(unchanged(self, answers_after, (PATH,), EXAMPLE, STORE, (1,)), ((0, 0), (1, 1)))

    def test_the_empty_union_and_the_empty_head(self):
        self.assertEqual(answers_by_hand((), EXAMPLE, STORE), ((), ()))
        self.assertEqual(answers_together((), EXAMPLE, STORE), ())
        self.assertEqual(answers_together((((), PATH[1], ()),), EXAMPLE, STORE), ((),))
        self.assertEqual(answers_together((((), PATH[1], ()),), EXAMPLE, ()), ())
        self.assertEqual(counted_together(((), PATH[1], ()), EXAMPLE, STORE), (((), 4),))

    def test_full_stores(self):
        full = tuple((0, (v, w)) for v in range(6) for w in range(10))
        dealing = everywhere((2,), Sorts((), 1), 8)
        self.assertEqual(answers_together((PATH,), dealing, full), plain.answers((PATH,), full))
        self.assertEqual(counted_together(PATH, dealing, full),
                         tuple((answer, 8 * number) for answer, number in plain.counted(PATH, full)))

    def test_counts(self):
        for union, dealing, store in settings(150):
            for question in union:
                sums = {}
                for part in dealt_stores(dealing, store):
                    for answer, number in plain.counted(question, part):
                        sums[answer] = sums.get(answer, 0) + number
                found = unchanged(self, counted_together, question, dealing, store)
                self.assertEqual(found, tuple(sorted(sums.items())))

    def test_errors_in_their_order(self):
        for function in (answers_by_hand, answers_together):
            self.assertEqual(fault(BadUnion, function, None, EXAMPLE, None), ("many", 0))
            self.assertEqual(fault(BadQuestion, function, (PATH, None), EXAMPLE, None), ("form", 0))
            self.assertEqual(fault(BadStore, function, (PATH,), EXAMPLE, None), (0, "many"))
        self.assertEqual(fault(BadUnion, answers_after, 7, EXAMPLE, None, None), ("many", 0))
        self.assertEqual(fault(BadStore, answers_after, (PATH,), EXAMPLE, ((0, (1,)),), None), (0, "width"))
        self.assertEqual(fault(BadLost, answers_after, (PATH,), EXAMPLE, STORE, None), (0,))
        self.assertEqual(fault(BadLost, answers_after, (PATH,), EXAMPLE, STORE, [1, 1]), (1,))
        self.assertEqual(fault(BadLost, answers_after, (PATH,), EXAMPLE, STORE, (0, True)), (1,))
        self.assertEqual(fault(BadLost, answers_after, (PATH,), EXAMPLE, STORE, (0, 2)), (1,))
        self.assertEqual(fault(BadQuestion, counted_together, (PATH,), EXAMPLE, None), ("form", 0))
        far = (("a",), ((1, ("a",)),), ())
        self.assertEqual(fault(BadQuestion, counted_together, far, EXAMPLE, None), ("table", 0))
        self.assertEqual(fault(BadStore, counted_together, PATH, EXAMPLE, ((0, (1, -1)),)), (0, "value"))


class Needed(unittest.TestCase):
    def test_a_kind_is_needed_if_no_dealing_without_it_is_right(self):
        seen = set()
        for number in range(60):
            union = plain.some_union(number, WIDTHS, 1)
            sorts = plain.some_sorts(number, 1, 1, 2)
            needed = needed_kinds(union, sorts)
            full = everywhere(WIDTHS, sorts, 1)
            for kind in all_kinds(WIDTHS, sorts):
                # If any dealing without the kind is right, so is the one that gives all other kinds to a hand.
                self.assertIs(is_right(union, full.with_lot(kind, ())), kind not in needed)
                seen.add(kind in needed)
        self.assertEqual(seen, {True, False})
