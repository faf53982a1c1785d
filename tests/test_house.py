"""[10.11]: a house, its deeds, and trials."""
import random
import unittest

from meetwhere.dealings import Dealing, all_kinds, everywhere
from meetwhere.errors import (BadGoal, BadQuestion, BadRow, BadUnion, Full, NoHand, NoRow, NoStep, NothingLeft,
                              StillTrial, TooMany)
from meetwhere.house import House
from meetwhere.moving import safe_order
from meetwhere.sorts import Sorts
from tests import plain
from tests.plain import GREATEST, NO_SEQUENCES, fault, in_lists, in_tuples
from tests.test_moving import BOTH, EIGHT, K, ONE, dealing_with

FRAMES = (((1,), Sorts((), 2), 2), ((1, 2), Sorts((3,), 1), 3), ((2,), Sorts((), 2), 2))
PATH = (("a", "c"), ((0, ("a", "b")), (0, ("b", "c"))), ())


class Book:
    """What a house ought to be: the copies and rows now, and each deed that stands with how many rows it sent."""

    def __init__(self, frame, dealing):
        self.frame = frame
        self.held = {(kind, hand) for kind, lot in dealing.rule for hand in lot}
        self.rows = set()
        self.deeds = []

    def lot(self, row):
        kind = plain.kind_of(self.frame[1], row)
        return tuple(hand for hand in range(self.frame[2]) if (kind, hand) in self.held)

    def of_kind(self, kind):
        return tuple(sorted(row for row in self.rows if plain.kind_of(self.frame[1], row) == kind))

    def do(self, deed):
        """Do a deed and return what the house ought to return."""
        before = (set(self.held), set(self.rows))
        word, what = deed[0], deed[1]
        if word == "put":
            told = () if what in self.rows else self.lot(what)
            sent = len(told)
            self.rows.add(what)
        elif word == "take":
            told, sent = self.lot(what), 0
            self.rows.discard(what)
        else:
            told = self.of_kind(what)
            sent = len(told) if word == "copy" else 0
            self.held ^= {deed[1:]}
        self.deeds.append((deed, before, sent))
        return told

    def undo(self, many):
        """Take deeds back and return them."""
        gone = self.deeds[len(self.deeds) - many:]
        del self.deeds[len(self.deeds) - many:]
        self.held, self.rows = (set(part) for part in gone[0][1])
        return tuple(deed for deed, _, _ in gone)

    def check(self, test, house):
        """Check that a house is what it ought to be."""
        dealing = dealing_with(self.frame, sorted(self.held))
        store = tuple(sorted(self.rows))
        test.assertTrue(house.dealing == dealing)
        test.assertEqual(house.store, store)
        test.assertEqual(house.log, tuple(deed for deed, _, _ in self.deeds))
        test.assertEqual(house.sent, sum(sent for _, _, sent in self.deeds))
        for hand in range(self.frame[2]):
            test.assertEqual(house.at_hand(hand), tuple(row for row in store if hand in self.lot(row)))
            test.assertEqual(house.at_hand(hand), plain.at_hand(dealing, store, hand))
        test.assertTrue(plain.is_deep_tuple((house.store, house.log)))


def some_deed(made, book):
    """Return a deed that can be done, made up by a source."""
    widths, sorts, hands = book.frame
    word = made.choice(("put", "put", "put", "take", "copy", "strike"))
    if word == "put" or (word == "take" and not book.rows):
        table = made.randrange(len(widths))
        return ("put", (table, tuple(made.randrange(6) for _ in range(widths[table]))))
    if word == "take":
        return ("take", made.choice(sorted(book.rows)))
    kind, hand = made.choice(all_kinds(widths, sorts)), made.randrange(hands)
    return ("strike" if (kind, hand) in book.held else "copy", kind, hand)


def do(house, deed, in_list=False):
    """Do a deed in a house, maybe with lists in the place of tuples."""
    word, rest = deed[0], list(map(in_lists, deed[1:])) if in_list else deed[1:]
    return {"put": house.put, "take": house.take, "copy": house.put_copy, "strike": house.strike_copy}[word](*rest)


def state_of(house):
    """Return all that a house tells of itself."""
    hands = tuple(house.at_hand(hand) for hand in range(house.dealing.hands))
    return (house.dealing.rule, house.store, house.log, house.sent, hands)


class Deeds(unittest.TestCase):
    def test_against_a_book_of_ones_own(self):
        words = []
        for number in range(60):
            made, frame = random.Random(number), FRAMES[number % 3]
            dealing = plain.some_dealing(number, *frame)
            house, book = House(dealing), Book(frame, dealing)
            book.check(self, house)
            for _ in range(30):
                if book.deeds and made.random() < 0.15:
                    many = made.randint(1, min(4, len(book.deeds)))
                    self.assertEqual(house.take_back(many), book.undo(many))
                else:
                    deed = some_deed(made, book)
                    self.assertEqual(do(house, deed, made.random() < 0.5), book.do(deed))
                    words.append(deed[0])
                book.check(self, house)
            self.assertEqual(house.take_back(len(book.deeds)), book.undo(len(book.deeds)))
            book.check(self, house)
            self.assertEqual((house.store, house.log, house.sent), ((), (), 0))
        for word in ("put", "take", "copy", "strike"):
            self.assertGreater(words.count(word), 100)

    def test_ordinary(self):
        house = House(dealing_with(FRAMES[0], [(K, 0), (K, 1), ((0, (1,)), 1)]))
        self.assertEqual((house.store, house.log, house.sent, house.at_hand(0)), ((), (), 0, ()))
        self.assertEqual(house.put([0, [4]]), (0, 1))
        self.assertEqual(house.put((0, (3,))), (1,))
        self.assertEqual((house.store, house.sent), (((0, (3,)), (0, (4,))), 3))
        self.assertEqual((house.at_hand(0), house.at_hand(1)), (((0, (4,)),), ((0, (3,)), (0, (4,)))))
        self.assertEqual(house.put_copy([0, [1]], 0), ((0, (3,)),))
        self.assertEqual(house.strike_copy((0, (1,)), 1), ((0, (3,)),))
        self.assertEqual(house.take([0, [4]]), (0, 1))
        self.assertEqual((house.store, house.sent, house.at_hand(1)), (((0, (3,)),), 4, ()))
        self.assertEqual(house.log, (("put", (0, (4,))), ("put", (0, (3,))), ("copy", (0, (1,)), 0),
                                     ("strike", (0, (1,)), 1), ("take", (0, (4,)))))
        self.assertEqual(house.take_back(), (("take", (0, (4,))),))
        self.assertEqual(house.take_back(2), (("copy", (0, (1,)), 0), ("strike", (0, (1,)), 1)))
        self.assertEqual((house.sent, house.at_hand(0), house.at_hand(1)), (3, ((0, (4,)),), ((0, (3,)), (0, (4,)))))
        self.assertEqual(house.take_back(many=2), (("put", (0, (4,))), ("put", (0, (3,)))))
        self.assertEqual((house.store, house.log, house.sent), ((), (), 0))

    def test_the_dealing_that_was_passed_stays(self):
        dealing = dealing_with(FRAMES[0], [(K, 0)])
        house, other = House(dealing), House(dealing)
        house.put((0, (2,)))
        house.put_copy(K, 1)
        house.strike_copy(K, 0)
        self.assertEqual(dealing.rule, ((K, (0,)),))
        self.assertTrue(other.dealing == dealing)
        self.assertEqual((other.store, other.log), ((), ()))
        self.assertEqual(house.dealing.rule, ((K, (1,)),))

    def test_a_row_that_is_put_twice(self):
        house = House(everywhere(*FRAMES[0]))
        self.assertEqual(house.put((0, (1,))), (0, 1))
        self.assertEqual(house.put([0, [1]]), ())
        self.assertEqual((house.store, house.sent, house.log), (((0, (1,)),), 2, (("put", (0, (1,))),) * 2))
        # To take the second put back leaves the row there.
        self.assertEqual(house.take_back(), (("put", (0, (1,))),))
        self.assertEqual((house.store, house.sent), (((0, (1,)),), 2))
        house.put((0, (1,)))
        self.assertEqual(house.take((0, (1,))), (0, 1))
        self.assertEqual((house.store, house.sent, len(house.log)), ((), 2, 3))
        self.assertEqual(house.put((0, (1,))), (0, 1))
        self.assertEqual(house.sent, 4)

    def test_rows_that_no_hand_holds(self):
        house = House(Dealing((1,), Sorts((), 1), 2, ()))
        self.assertEqual((house.put((0, (GREATEST,))), house.sent), ((), 0))
        self.assertEqual(house.take((0, (GREATEST,))), ())
        self.assertEqual(house.put_copy(K, 1), ())
        self.assertEqual((house.put((0, (7,))), house.sent), ((1,), 1))

    def test_sixty_rows_and_one_more(self):
        house = House(everywhere((1,), Sorts((), 1), 8))
        for value in range(60):
            house.put((0, (59 - value,)))
        self.assertEqual((len(house.store), house.sent, house.at_hand(7)), (60, 480, house.store))
        self.assertEqual(house.store, tuple((0, (value,)) for value in range(60)))
        before = state_of(house)
        self.assertEqual(fault(Full, house.put, (0, (60,))), (60,))
        self.assertEqual(state_of(house), before)
        # A row that is there may be put, and a wrong one is told as that.
        self.assertEqual(house.put((0, (5,))), ())
        self.assertEqual(fault(BadRow, house.put, (0, (-1,))), ("value",))
        house.take((0, (5,)))
        self.assertEqual(house.put((0, (60,))), tuple(range(8)))
        self.assertEqual(fault(Full, house.put, (0, (5,))), (60,))
        self.assertEqual(len(house.log), 63)

    def test_rows_that_are_none(self):
        house = House(everywhere(*FRAMES[1]))
        house.put((0, (1,)))
        before = state_of(house)
        for row, what in ((None, "row"), ((0,), "row"), ((True, (1,)), "row"), ((2, (1,)), "table"),
                          ((1, (1,)), "width"), ((0, (True,)), "value"), ((0, (GREATEST + 1,)), "value"), ("ab", "row"),
                          ({0: 0}, "row")):
            self.assertEqual(fault(BadRow, house.put, row), (what,))
            self.assertEqual(fault(BadRow, house.take, row), (what,))
        self.assertEqual(fault(NoRow, house.take, (0, (2,))), ((0, (2,)),))
        self.assertEqual(fault(NoRow, house.take, [1, [1, 0]]), ((1, (1, 0)),))
        self.assertEqual(state_of(house), before)

    def test_steps_that_cannot_be_done(self):
        house = House(dealing_with(FRAMES[0], [(K, 0)]))
        house.put((0, (2,)))
        before = state_of(house)
        for function in (house.put_copy, house.strike_copy):
            for kind in (None, 0, "ab", (), (0,), (0, (2,)), (1, (0,)), (0, (True,)), (True, (0,)), (0, (0, 0)),
                         (0, 0)):
                self.assertEqual(fault(NoStep, function, kind, None), ("kind",))
            for hand in (2, -1, True, False, None, "0", 0.0, (0,)):
                self.assertEqual(fault(NoStep, function, [0, [0]], hand), ("hand",))
        self.assertEqual(fault(NoStep, house.put_copy, K, 0), ("held",))
        self.assertEqual(fault(NoStep, house.strike_copy, [0, [0]], 1), ("held",))
        self.assertEqual(fault(NoStep, house.strike_copy, (0, (1,)), 0), ("held",))
        self.assertEqual(state_of(house), before)


class Asked(unittest.TestCase):
    def test_hands_answers_and_lost_ones(self):
        lost = 0
        for number in range(120):
            made, frame = random.Random(number), FRAMES[number % 3]
            house = House(plain.some_dealing(number, *frame, 0.6))
            for row in plain.some_store(number, frame[0], 3, 8):
                house.put(row)
            union = plain.some_union(number, frame[0], 2)
            together = plain.together(union, house.dealing, house.store)
            given = in_lists(union) if made.random() < 0.5 else union
            self.assertEqual(house.ask(given), together)
            right = tuple(answer for answer in plain.answers(union, house.store) if answer not in together)
            self.assertEqual(house.lost_answers(given), right)
            self.assertEqual(in_tuples(given), union)
            lost += bool(right)
        self.assertGreater(lost, 8)

    def test_it_changes_nothing(self):
        house = House(everywhere(*FRAMES[2]))
        for value in range(3):
            house.put((0, (value, value + 1)))
        before = state_of(house)
        self.assertEqual((house.ask((PATH,)), house.lost_answers((PATH,))), (((0, 2), (1, 3)), ()))
        self.assertIs(house.holds(("right", (PATH,))), True)
        self.assertEqual((house.ask(()), house.lost_answers([])), ((), ()))
        self.assertEqual(state_of(house), before)

    def test_goals_for_the_dealing_now(self):
        house = House(dealing_with(FRAMES[0], [(K, 0)]))
        goals = (("right", ONE), ("counted", ONE[0]), ["lost", 1, ONE], ("room", 1),
                 ("both", ("room", 1), ("right", ONE)))
        self.assertEqual([house.holds(goal) for goal in goals], [False, False, False, True, False])
        house.put_copy((0, (1,)), 1)
        self.assertEqual([house.holds(goal) for goal in goals], [True, True, False, True, True])
        house.put_copy(K, 1)
        house.put_copy((0, (1,)), 0)
        self.assertEqual([house.holds(goal) for goal in goals], [True, False, True, False, False])
        house.take_back(3)
        self.assertEqual([house.holds(goal) for goal in goals], [False, False, False, True, False])

    def test_errors(self):
        house = House(everywhere((1,), Sorts((), 2), 2))
        house.put((0, (1,)))
        before = state_of(house)
        for thing in NO_SEQUENCES:
            self.assertEqual(fault(BadUnion, house.ask, thing), ("many", 0))
            self.assertEqual(fault(BadUnion, house.lost_answers, thing), ("many", 0))
        for function in (house.ask, house.lost_answers):
            self.assertEqual(fault(BadQuestion, function, (PATH,)), ("width", 0))
        for hand in (2, -1, True, False, None, "0", 0.0, (0,), [1]):
            self.assertEqual(fault(NoHand, house.at_hand, hand), (in_tuples(hand),))
        self.assertEqual(fault(BadGoal, house.holds, ("right", (PATH,))), ("union",))
        self.assertEqual(fault(BadGoal, house.holds, None), ("goal",))
        self.assertEqual(fault(TooMany, house.holds, ("right", EIGHT)), (1000,))
        self.assertEqual(house.ask(EIGHT), ((),))
        self.assertEqual(state_of(house), before)


class TakenBack(unittest.TestCase):
    def test_all_deeds(self):
        house = House(everywhere(*FRAMES[0]))
        before = state_of(house)
        house.put((0, (1,)))
        house.strike_copy((0, (1,)), 0)
        house.take((0, (1,)))
        log = house.log
        self.assertEqual(house.take_back(3), log)
        self.assertEqual(state_of(house), before)

    def test_nothing_left(self):
        house = House(everywhere(*FRAMES[0]))
        self.assertEqual(fault(NothingLeft, house.take_back), (1,))
        house.put((0, (1,)))
        house.put((0, (1,)))
        before = state_of(house)
        for many in (0, -1, 3, 100, True, False, None, "1", 1.0, (1,), [1]):
            self.assertEqual(fault(NothingLeft, house.take_back, many), (in_tuples(many),))
        self.assertEqual(state_of(house), before)
        self.assertEqual(house.take_back(1), (("put", (0, (1,))),))
        self.assertEqual(fault(NothingLeft, house.take_back, 2), (2,))
        self.assertEqual(house.store, ((0, (1,)),))


class Trials(unittest.TestCase):
    def setUp(self):
        self.house = House(dealing_with(FRAMES[0], [(K, 0)]))
        self.house.put((0, (2,)))
        self.house.put((0, (1,)))
        self.before = state_of(self.house)

    def test_all_is_as_before(self):
        told = []

        def action(house):
            self.assertIs(house, self.house)
            house.put((0, (4,)))
            house.put_copy((0, (1,)), 1)
            house.strike_copy(K, 0)
            house.take((0, (2,)))
            told.append(state_of(house))
            return told
        self.assertIs(self.house.trying(action), told)
        self.assertEqual(told[0][1:4], (((0, (1,)), (0, (4,))),
                                        self.before[2] + (("put", (0, (4,))), ("copy", (0, (1,)), 1), ("strike", K, 0),
                                                          ("take", (0, (2,)))), 3))
        self.assertEqual(state_of(self.house), self.before)
        self.assertEqual(self.house.put((0, (6,))), (0,))
        self.assertEqual(self.house.take_back(3)[2], ("put", (0, (6,))))
        self.assertEqual(self.house.log, ())

    def test_an_action_that_raises(self):
        class Wrong(Exception):
            pass

        def action(house):
            house.put_copy(K, 1)
            house.take((0, (1,)))
            raise Wrong("so")
        with self.assertRaises(Wrong):
            self.house.trying(action)
        self.assertEqual(state_of(self.house), self.before)
        self.assertEqual(fault(NoRow, self.house.trying, lambda house: house.take((0, (9,)))), ((0, (9,)),))
        self.assertEqual(state_of(self.house), self.before)
        # The trial is over: another one may begin, and deeds ahead of it may be taken back.
        self.assertEqual(self.house.trying(lambda house: 5), 5)
        self.assertEqual(len(self.house.take_back(2)), 2)

    def test_a_trial_within_a_trial(self):
        calls = []

        def inner(house):
            calls.append(house)

        def action(house):
            house.put((0, (4,)))
            self.assertEqual(fault(StillTrial, house.trying, inner), (3,))
            self.assertEqual(house.store, ((0, (1,)), (0, (2,)), (0, (4,))))
            house.take_back()
            self.assertEqual(fault(StillTrial, house.trying, inner), (2,))
            # Another house may be tried meanwhile.
            other = House(house.dealing)
            return other.trying(lambda one: one.put((0, (8,)))) + (len(other.log),)
        self.assertEqual(self.house.trying(action), (0, 0))
        self.assertEqual(calls, [])
        self.assertEqual(state_of(self.house), self.before)
        self.assertEqual(fault(StillTrial, self.house.trying, lambda house: house.trying(inner)), (2,))
        self.assertEqual(calls, [])
        self.assertIsNone(self.house.trying(inner))
        self.assertEqual(calls, [self.house])

    def test_deeds_taken_back_in_a_trial_but_none_ahead_of_it(self):
        def action(house):
            self.assertEqual(fault(NothingLeft, house.take_back), (1,))
            house.put((0, (4,)))
            house.put((0, (6,)))
            self.assertEqual(fault(NothingLeft, house.take_back, 3), (3,))
            self.assertEqual(house.take_back(), (("put", (0, (6,))),))
            self.assertEqual(fault(NothingLeft, house.take_back, 2), (2,))
            self.assertEqual(house.take_back(), (("put", (0, (4,))),))
            self.assertEqual(fault(NothingLeft, house.take_back), (1,))
            self.assertEqual(state_of(house), self.before)
            return "done"
        self.assertEqual(self.house.trying(action), "done")
        self.assertEqual(state_of(self.house), self.before)
        self.assertEqual(len(self.house.take_back(2)), 2)

    def test_a_trial_in_an_empty_house(self):
        house = House(everywhere(*FRAMES[0]))
        self.assertEqual(house.trying(lambda one: one.put((0, (1,)))), (0, 1))
        self.assertEqual((house.store, house.log, house.sent), ((), (), 0))

        def action(one):
            one.put((0, (1,)))
            self.assertEqual(one.take_back(), (("put", (0, (1,))),))
            return fault(StillTrial, one.trying, None)
        self.assertEqual(house.trying(action), (0,))

    def test_against_a_book_of_ones_own(self):
        for number in range(40):
            made, frame = random.Random(number), FRAMES[number % 3]
            dealing = plain.some_dealing(number, *frame)
            house, book = House(dealing), Book(frame, dealing)
            for _ in range(8):
                deed = some_deed(made, book)
                do(house, deed)
                book.do(deed)
            before, ahead = state_of(house), len(book.deeds)
            kept = (set(book.held), set(book.rows), list(book.deeds))

            def action(tried):
                for _ in range(12):
                    done = len(book.deeds) - ahead
                    if done and made.random() < 0.3:
                        many = made.randint(1, done)
                        self.assertEqual(tried.take_back(many), book.undo(many))
                    else:
                        one = some_deed(made, book)
                        self.assertEqual(do(tried, one), book.do(one))
                    book.check(self, tried)
                if number % 2:
                    raise KeyError(number)
                return number
            if number % 2:
                self.assertRaises(KeyError, house.trying, action)
            else:
                self.assertEqual(house.trying(action), number)
            self.assertEqual(state_of(house), before)
            book.held, book.rows, book.deeds = kept
            for _ in range(8):
                deed = some_deed(made, book)
                self.assertEqual(do(house, deed), book.do(deed))
                book.check(self, house)


class Example(unittest.TestCase):
    def test_a_house_along_a_safe_order(self):
        frame = ((1,), Sorts((), 1), 2)
        house = House(dealing_with(frame, [(K, 0)]))
        house.put((0, (5,)))
        for step in safe_order(ONE, house.dealing, dealing_with(frame, [(K, 1)]), 1):
            self.assertEqual(do(house, step), ((0, (5,)),))
            self.assertIs(house.holds(("right", ONE)), True)
            self.assertEqual((house.ask(ONE), house.lost_answers(ONE)), (((5,),), ()))
        self.assertEqual([deed[0] for deed in house.log], ["put", "copy", "strike"])
        self.assertEqual(house.sent, 2)
        self.assertEqual(house.lost_answers(BOTH), ())
