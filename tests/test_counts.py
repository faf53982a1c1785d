"""[5.9] to [5.11], and of [5.14] what they speak of: counts that are right on all stores; sets of rows of readings."""
import unittest

from meetwhere.asking import answer_of
from meetwhere.cases import all_cases
from meetwhere.counts import Miscounted, count_span, counts_right, miscounted_fault
from meetwhere.dealings import Dealing, dealing_by, everywhere
from meetwhere.dealt import counted_together
from meetwhere.errors import BadQuestion, TooMany
from meetwhere.questions import names_of, question_values
from meetwhere.rightness import is_right, meeting_hands
from meetwhere.rowsets import row_sets
from meetwhere.sorts import Sorts
from tests import plain
from tests.plain import GREATEST, fault, unchanged

WIDTHS = (1, 2)
PATH = (("a", "c"), ((0, ("a", "b")), (0, ("b", "c"))), ())
BY_REMAINDERS = dealing_by((2,), Sorts((), 2), 2, lambda kind: sorted(set(kind[1])))
EIGHT = ((), tuple((0, (letter,)) for letter in plain.NAMES), ())
NONE = ((), ((0, ("a",)),), (("a", "a"),))


def settings(many, hands=(1, 2, 3)):
    """Yield questions and dealings made up by number; many of the dealings give each kind to one hand."""
    for number in range(many):
        question = plain.some_question(number, WIDTHS, 1, 3, 3)
        sorts = plain.some_sorts(number, 2, 1, 2)
        dealing = plain.some_dealing(number, WIDTHS, sorts, hands[number % len(hands)], 0.7)
        if number % 2:
            dealing = dealing_by(WIDTHS, sorts, 3, lambda kind: (kind[1][-1] % 2,))
        if number % 4 == 3:
            dealing = dealing_by(WIDTHS, sorts, 3, lambda kind: (2,))
        yield question, dealing


def plain_lots(question, dealing):
    """Return all cases with their rows and the hands that hold these."""
    found = []
    for case in all_cases(question, dealing.sorts, question_values(question)):
        rows = plain.rows_of(question, dict(zip(plain.names_of(question), case)))
        found.append((case, rows, plain.lot_of_rows(dealing, rows)))
    return found


class CountsRight(unittest.TestCase):
    def test_example(self):
        right = Miscounted((0, 1, 0), ((0, (0, 1)), (0, (1, 0))), (0, 0), (0, 1))
        self.assertTrue(counts_right(PATH, BY_REMAINDERS) == right)
        self.assertEqual(count_span(PATH, BY_REMAINDERS), (1, 2))
        self.assertIsNone(miscounted_fault(PATH, BY_REMAINDERS, right))
        self.assertEqual(counted_together(PATH, BY_REMAINDERS, right.store), (((0, 0), 2), ((1, 1), 2)))

    def test_against_a_plain_going_through_cases(self):
        seen = []
        for question, dealing in settings(240):
            lots = plain_lots(question, dealing)
            wrong = [(len(rows), place) for place, (_, rows, lot) in enumerate(lots) if len(lot) != 1]
            found = unchanged(self, counts_right, question, dealing)
            if wrong:
                case, rows, lot = lots[min(wrong)[1]]
                self.assertTrue(found == Miscounted(case, rows, answer_of(question, case), lot))
                self.assertIsNone(miscounted_fault(question, dealing, found))
                self.wrong_by_as_much(question, dealing, found)
            else:
                self.assertIsNone(found)
                self.assertTrue(is_right((question,), dealing))
            seen.append(bool(wrong))
        self.assertGreater(seen.count(True), 50)
        self.assertGreater(seen.count(False), 50)

    def wrong_by_as_much(self, question, dealing, found):
        """Check how wrong the count of the answer is on the store."""
        together = dict(counted_together(question, dealing, found.store)).get(found.answer, 0)
        plainly = dict(plain.counted(question, found.store)).get(found.answer, 0)
        names = names_of(question)
        whole = [reading for reading in plain.readings(question, found.store)
                 if plain.rows_of(question, dict(zip(names, reading))) == found.store
                 and answer_of(question, reading) == found.answer]
        self.assertEqual(together - plainly, (len(found.hands) - 1) * len(whole))
        self.assertNotEqual(together, plainly)

    def test_against_small_stores(self):
        for number, (question, dealing) in enumerate(settings(48)):
            right = counts_right(question, dealing) is None
            span = count_span(question, dealing)
            for store in plain.all_stores(WIDTHS, (0, 1, 2), 2 if number % 4 else 3):
                together = dict(counted_together(question, dealing, store))
                for answer, count in plain.counted(question, store):
                    number_there = together.get(answer, 0)
                    self.assertTrue(span[0] * count <= number_there <= span[1] * count)
                    if right:
                        self.assertEqual(number_there, count)

    def test_no_case(self):
        for question in (NONE, ((), ((0, (1,)),), ((3, 3),))):
            for dealing in (everywhere((1,), Sorts((), 2), 3), Dealing((1,), Sorts((), 2), 3, ())):
                self.assertIsNone(counts_right(question, dealing))
                self.assertIsNone(count_span(question, dealing))

    def test_not_least_readings_count_too(self):
        question = (("a",), ((0, ("a", "b")), (0, ("a", "c"))), ())
        dealing = dealing_by((2,), Sorts((), 2), 2, lambda kind: (kind[1][1],))
        self.assertTrue(is_right((question,), dealing))
        self.assertTrue(counts_right(question, dealing)
                        == Miscounted((0, 0, 1), ((0, (0, 0)), (0, (0, 1))), (0,), ()))
        self.assertEqual(count_span(question, dealing), (0, 1))

    def test_hands_and_sorts_at_their_limits(self):
        one = (("a",), ((0, ("a",)),), ())
        sorts = Sorts(tuple(range(8)), 6)
        self.assertIsNone(counts_right(one, everywhere((1,), sorts, 1)))
        self.assertEqual(count_span(one, everywhere((1,), sorts, 8)), (8, 8))
        self.assertTrue(counts_right(one, everywhere((1,), sorts, 8))
                        == Miscounted((0,), ((0, (0,)),), (0,), tuple(range(8))))
        last = everywhere((1,), sorts, 1).with_lot((0, (13,)), ())
        self.assertTrue(counts_right(one, last) == Miscounted((11,), ((0, (11,)),), (11,), ()))

    def test_errors(self):
        dealing = everywhere((1,), Sorts((), 1), 1)
        for function in (counts_right, count_span):
            self.assertEqual(fault(BadQuestion, function, None, dealing), ("form", 0))
            self.assertEqual(fault(BadQuestion, function, (EIGHT,), dealing), ("form", 0))
            self.assertEqual(fault(BadQuestion, function, PATH, dealing), ("width", 0))
            self.assertEqual(fault(BadQuestion, function, ((True,), EIGHT[1], ()), dealing), ("head", 0))
            self.assertEqual(fault(TooMany, function, EIGHT, dealing), (1000,))
            self.assertEqual(fault(TooMany, function, EIGHT[:2] + ((("a", "a"),),), dealing), (1000,))
        seven = ((), EIGHT[1][:7], ())
        self.assertEqual(count_span(seven, dealing), (1, 1))
        four = ((), EIGHT[1][:4], ())
        self.assertIsNone(counts_right(four, everywhere((1,), Sorts((1, 2, 3, 4), 1), 1)))
        for function in (counts_right, count_span):
            # 799 layings with four fixed values, 1,540 with five.
            self.assertEqual(fault(TooMany, function, four, everywhere((1,), Sorts((1, 2, 3, 4, 5), 1), 1)), (1000,))
        # 967 layings of two names with 25 fixed values, 1,030 with 26.
        sorts = Sorts(tuple(range(8)), 6)
        pairs = tuple((at, at + 1) for at in range(8, 24, 2))
        for head, right in (((24,), (1, 1)), ((24, 25), None)):
            two = (head, ((0, ("a",)), (0, ("b",))), pairs)
            if right is None:
                self.assertEqual(fault(TooMany, count_span, two, everywhere((1,), sorts, 1)), (1000,))
                self.assertEqual(fault(TooMany, counts_right, two, everywhere((1,), sorts, 1)), (1000,))
            else:
                self.assertEqual(count_span(two, everywhere((1,), sorts, 1)), right)
                self.assertIsNone(counts_right(two, everywhere((1,), sorts, 1)))


class Judged(unittest.TestCase):
    FOUND = counts_right(PATH, BY_REMAINDERS)

    def judge(self, **told):
        miscounted = Miscounted(*[told.get(name, value) for name, value in vars(self.FOUND).items()])
        return miscounted_fault(PATH, BY_REMAINDERS, miscounted)

    def test_any_values(self):
        self.assertIsNone(self.judge())
        self.assertIsNone(self.judge(reading=(4, 7, GREATEST), store=((0, (4, 7)), (0, (7, GREATEST))),
                                     answer=(4, GREATEST)))

    def test_reading(self):
        for reading in ((), (0, 1), (0, 1, 0, 0), (0, True, 0), (0, -1, 0), (0, GREATEST + 1, 0), (0, "a", 0)):
            self.assertEqual(self.judge(reading=reading, store=None), "reading")
        unlike = (PATH[0], PATH[1], (("a", "c"),))
        self.assertEqual(miscounted_fault(unlike, BY_REMAINDERS, self.FOUND), "reading")

    def test_store_and_answer(self):
        right = self.FOUND.store
        for store in (right[::-1], right[:1], right + right[1:], (), ((0, (0, True)), right[1])):
            self.assertEqual(self.judge(store=store, answer=None), "store")
        for answer in ((0,), (0, 1), (), (0, False)):
            self.assertEqual(self.judge(answer=answer, hands=None), "answer")

    def test_hands(self):
        for hands in ((), (0,), (1, 0), (0, 1, 1), (0, 1, 2), (0, True), (False, 1)):
            self.assertEqual(self.judge(hands=hands), "hands")

    def test_once(self):
        store = ((0, (0, 0)), (0, (0, 1)))
        self.assertEqual(self.judge(reading=(0, 0, 1), store=store, answer=(0, 1), hands=(0,)), "once")
        self.assertEqual(self.judge(reading=(0, 0, 1), store=store, answer=(0, 1), hands=(0, 1)), "hands")

    def test_part(self):
        question = (("a",), ((0, ("a", "b")), (0, ("a", "c"))), ())
        store = ((0, (0, 0)), (0, (0, 1)))
        for lots, right in ((((0,), (1,)), None), (((0,), (0, 1)), "once"), (((0, 1), (0, 1)), "part"),
                            (((), (1,)), "part"), (((0,), ()), "part"), (((0, 1), (2,)), "part")):
            dealing = Dealing((2,), Sorts((), 2), 3, [((0, (0, 0)), lots[0]), ((0, (0, 1)), lots[1])])
            hands = tuple(hand for hand in lots[0] if hand in lots[1])
            self.assertEqual(miscounted_fault(question, dealing, Miscounted((0, 0, 1), store, (0,), hands)), right)

    def test_against_a_plain_judge(self):
        words = set()
        for question, dealing in settings(90):
            for given in plain.readings_over(question, (0, 1, 3)):
                rows = plain.rows_of(question, given)
                hands = plain.lot_of_rows(dealing, rows)
                right = "once" if len(hands) == 1 else None
                for other in plain.readings(question, rows):
                    part = plain.rows_of(question, dict(zip(plain.names_of(question), other)))
                    if part != rows and len(plain.lot_of_rows(dealing, part)) != 1:
                        right = right or "part"
                told = Miscounted(tuple(given.values()), rows, plain.filled(question[0], given), hands)
                self.assertEqual(miscounted_fault(question, dealing, told), right)
                words.add(right)
                if right is None:
                    CountsRight.wrong_by_as_much(self, question, dealing, told)
        self.assertEqual(words, {None, "once", "part"})

    def test_no_bound(self):
        # All of 16,777,216 readings on the store, but for those with all of its rows, have rows of at most 7 hands.
        sorts = Sorts(tuple(range(8)), 1)
        apart = Dealing((1,), sorts, 8, [((0, (k,)), (k,)) for k in range(8)])
        told = Miscounted(tuple(range(8)), tuple((0, (k,)) for k in range(8)), (), ())
        self.assertEqual(miscounted_fault(EIGHT, apart, told), "part")
        self.assertEqual(miscounted_fault(EIGHT, everywhere((1,), sorts, 1), told), "hands")
        told = Miscounted((5,) * 8, ((0, (5,)),), (), ())
        self.assertIsNone(miscounted_fault(EIGHT, apart.without((5,)), told))

    def test_errors(self):
        for thing in (None, (PATH,), EIGHT):
            self.assertIn(fault(BadQuestion, miscounted_fault, thing, BY_REMAINDERS, None), (("form", 0), ("width", 0)))


class Result(unittest.TestCase):
    def test_it_keeps_the_very_things_and_checks_nothing(self):
        things = [[object()] for _ in range(4)]
        kept = vars(Miscounted(*things))
        self.assertEqual(list(kept), ["reading", "store", "answer", "hands"])
        self.assertTrue(all(one is thing for one, thing in zip(kept.values(), things)))

    def test_equal(self):
        one = Miscounted((1,), ((0, (1,)),), (), (0, 1))
        self.assertTrue(one == Miscounted((1,), ((0, (1,)),), (), (0, 1)))
        self.assertFalse(one != Miscounted((1,), ((0, (1,)),), (), (0, 1)))
        for other in (Miscounted((2,), ((0, (1,)),), (), (0, 1)), Miscounted((1,), (), (), (0, 1)),
                      Miscounted((1,), ((0, (1,)),), (1,), (0, 1)), Miscounted((1,), ((0, (1,)),), (), (0,)), None):
            self.assertTrue(one != other)


class RowSets(unittest.TestCase):
    def test_against_a_plain_going_through_readings(self):
        for number in range(300):
            question = plain.some_question(number, WIDTHS, 2, 5, 4)
            store = plain.some_store(number, WIDTHS, 2, 5)
            right = {plain.rows_of(question, dict(zip(plain.names_of(question), reading)))
                     for reading in plain.readings(question, store)}
            found = row_sets(question, store)
            self.assertEqual(len(found), len(set(found)))
            self.assertEqual(set(found), right)

    def test_eight_names(self):
        store = tuple((0, (k,)) for k in range(8))
        self.assertEqual(len(row_sets(EIGHT, store)), 255)
        ring = tuple(zip("abcdefgh", "bcdefgha"))
        self.assertEqual(len(row_sets(EIGHT[:2] + (ring,), store)), 255 - 8)
