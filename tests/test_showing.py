"""[10.7]: fewest copies that show whether a dealing is right."""
import itertools
import random
import unittest

from meetwhere.dealings import Dealing, everywhere
from meetwhere.errors import BadQuestion, BadUnion, TooMany
from meetwhere.leastdealings import fewest_within
from meetwhere.demands import demands_of
from meetwhere.needless import copies_of
from meetwhere.rightness import is_right
from meetwhere.showing import Showing, least_showing, showing_fault
from meetwhere.sorts import Sorts
from tests import plain
from tests.plain import NO_SEQUENCES, fault, in_lists, unchanged
from tests.test_moving import BOTH, EIGHT, K, ONE, all_copies, dealing_with, some_unions
from tests.test_seen import FRAMES, all_dealings


def shows(union, frame, right, copies):
    """Return whether copies show that a dealing is right, or not, by going through all dealings of the frame."""
    copies = set(copies)
    if right:
        return all(is_right(union, one) for one in all_dealings(frame) if copies <= set(copies_of(one)))
    return not any(is_right(union, one) for one in all_dealings(frame) if not copies & set(copies_of(one)))


def settings(many):
    """Yield unions, frames and dealings made up by number."""
    for number in range(many):
        made, frame = random.Random(number), FRAMES[number % 4]
        yield (some_unions(made.randrange(200), frame[0]), frame,
               plain.some_dealing(number, *frame, made.choice((0.4, 0.7, 0.9, 1))))


class Least(unittest.TestCase):
    def test_against_all_dealings(self):
        sizes = []
        for union, frame, dealing in settings(160):
            right = is_right(union, dealing)
            held = copies_of(dealing)
            others = held if right else [copy for copy in all_copies(frame) if copy not in held]
            found = unchanged(self, lambda asked: self.told(asked, dealing), union)
            self.assertIs(found[0], right)
            self.assertEqual(found[1], tuple(sorted(set(found[1]))))
            self.assertTrue(set(found[1]) <= set(others))
            self.assertTrue(shows(union, frame, right, found[1]))
            fewest = next(many for many in range(len(others) + 1)
                          if any(shows(union, frame, right, part) for part in itertools.combinations(others, many)))
            self.assertEqual(len(found[1]), fewest)
            if not right:
                self.assertEqual([hand for hand in sorted(hand for _, hand in found[1])], list(range(frame[2])))
            self.assertIsNone(showing_fault(union, dealing, Showing(*found)))
            sizes.append((right, fewest))
        for key in ((True, 0), (True, 1), (True, 2), (True, 3), (False, 2), (False, 3)):
            self.assertGreater(sizes.count(key), 2, key)

    def told(self, union, dealing):
        """Return the attributes of the showing that is returned."""
        found = least_showing(union, dealing)
        self.assertIsInstance(found, Showing)
        return (found.right, found.copies)

    def test_a_right_dealing_without_demands(self):
        for union in ((), (((), ((0, ("a",)),), (("a", "a"),)),)):
            for dealing in (everywhere((1,), Sorts((), 2), 2), Dealing((1,), Sorts((), 2), 2, ())):
                self.assertTrue(least_showing(union, dealing) == Showing(True, ()))
                self.assertIsNone(showing_fault(union, dealing, Showing(True, ())))

    def test_ordinary(self):
        one = dealing_with(FRAMES[0], [(K, 0), (K, 1), ((0, (1,)), 1)])
        found = least_showing(ONE, one)
        self.assertEqual((found.right, len(found.copies), found.copies[-1]), (True, 2, ((0, (1,)), 1)))
        two = dealing_with(FRAMES[0], [((0, (1,)), 1)])
        self.assertTrue(least_showing(ONE, two) == Showing(False, ((K, 0), (K, 1))))

    def test_eight_hands(self):
        frame = ((1, 1), Sorts((), 1), 8)
        both = (((), ((0, ("a",)), (1, ("b",))), ()),)
        apart = dealing_with(frame, [((hand % 2, (0,)), hand) for hand in range(8)])
        found = least_showing(both, apart)
        self.assertTrue(found == Showing(False, tuple(sorted(((1 - hand % 2, (0,)), hand) for hand in range(8)))))
        self.assertIsNone(showing_fault(both, apart, found))

    def test_errors_in_their_order(self):
        for judged in (False, True):
            def function(union, dealing):
                return showing_fault(union, dealing, Showing(None, None)) if judged else least_showing(union, dealing)
            dealing = everywhere((1,), Sorts((), 6), 8)
            for thing in NO_SEQUENCES:
                self.assertEqual(fault(BadUnion, function, thing, dealing), ("many", 0))
            self.assertEqual(fault(BadQuestion, function, EIGHT + (None,), dealing), ("form", 0))
            self.assertEqual(fault(TooMany, function, EIGHT, dealing), (1000,))
            # Four demands at eight hands are just not too many, five are; and none if the dealing is not right.
            self.assertEqual(fault(TooMany, function, ONE, everywhere((1,), Sorts((), 5), 8)), (4096,))
            self.assertEqual(fault(TooMany, fewest_within, dealing, demands_of(ONE, dealing)), (4096,))
            poor = dealing.with_lot((0, (5,)), ())
            if judged:
                self.assertEqual(function(ONE, everywhere((1,), Sorts((), 4), 8)), "right")
                self.assertEqual(function(ONE, poor), "right")
            else:
                self.assertEqual(len(function(ONE, everywhere((1,), Sorts((), 4), 8)).copies), 4)
                self.assertTrue(function(ONE, poor) == Showing(False, tuple(((0, (5,)), hand) for hand in range(8))))


class Judge(unittest.TestCase):
    def setUp(self):
        self.p, self.q = (0, (0,)), (0, (1,))
        self.right = dealing_with(FRAMES[0], [(self.p, 0), (self.p, 1), (self.q, 1)])
        self.wrong = dealing_with(FRAMES[0], [(self.p, 0), (self.q, 1)])

    def test_all_copies_that_may_be_told(self):
        words = []
        for number, (union, frame, dealing) in enumerate(settings(48)):
            right = is_right(union, dealing)
            held = copies_of(dealing)
            fewest = len(least_showing(union, dealing).copies)
            parts = list(itertools.chain.from_iterable(itertools.combinations(all_copies(frame), many)
                                                       for many in range(fewest + 2)))
            for part in random.Random(number).sample(parts, min(len(parts), 40)):
                if not all((copy in held) == right for copy in part):
                    word = "held"
                elif not shows(union, frame, right, part):
                    word = "enough"
                else:
                    word = "fewest" if len(part) > fewest else None
                self.assertEqual(showing_fault(union, dealing, Showing(right, part[::-1])), word)
                self.assertEqual(showing_fault(union, dealing, Showing(right, in_lists(part))), word)
                self.assertEqual(showing_fault(union, dealing, Showing(not right, part)), "right")
                words.append(word)
        for word in ("held", "enough", "fewest", None):
            self.assertGreater(words.count(word), 20, word)

    def test_right(self):
        for thing in (None, 1, 0, "True", (), [True], 1.0):
            self.assertEqual(showing_fault(ONE, self.right, Showing(thing, None)), "right")
            self.assertEqual(showing_fault(BOTH, self.wrong, Showing(thing, None)), "right")
        self.assertEqual(showing_fault(ONE, self.right, Showing(False, None)), "right")
        self.assertEqual(showing_fault(BOTH, self.wrong, Showing(True, None)), "right")

    def test_copies(self):
        p, q = self.p, self.q
        for dealing, union, right in ((self.right, ONE, True), (self.wrong, BOTH, False)):
            for thing in NO_SEQUENCES:
                self.assertEqual(showing_fault(union, dealing, Showing(right, thing)), "copies")
            for thing in (None, 5, "ab", (), (p,), (p, 0, 0), (p, 2), (p, -1), (p, True), (p, None), ((0, (2,)), 0),
                          ((0, (False,)), 0), ((1, (0,)), 0), (0, 0), {0: p, 1: 0}):
                self.assertEqual(showing_fault(union, dealing, Showing(right, [thing])), "copies", thing)
                self.assertEqual(showing_fault(union, dealing, Showing(right, ((q, 0), thing))), "copies", thing)
            self.assertEqual(showing_fault(union, dealing, Showing(right, [(p, 1), [[0, [0]], 1]])), "copies")

    def test_held_enough_and_fewest(self):
        p, q = self.p, self.q
        for copies, word in ((((p, 0), (q, 0)), "held"), (((q, 0),), "held"), (((p, 0), (p, 1)), "enough"),
                             ((), "enough"), (((p, 0), (p, 1), (q, 1)), "fewest"), (((q, 1), (p, 1)), None),
                             (((p, 0), (q, 1)), None)):
            self.assertEqual(showing_fault(ONE, self.right, Showing(True, copies)), word)
            self.assertEqual(showing_fault(ONE, self.right, Showing(True, list(copies))), word)
        for copies, word in ((((p, 1), (q, 1)), "held"), (((p, 0),), "held"), (((p, 1),), "enough"), ((), "enough"),
                             (((q, 0),), "enough"), (((p, 1), (q, 0)), None), (((q, 0), (p, 1)), None)):
            self.assertEqual(showing_fault(BOTH, self.wrong, Showing(False, copies)), word)
        none = dealing_with(FRAMES[0], [])
        for copies, word in ((((p, 0), (p, 1)), None), (((p, 0), (q, 1)), None), (((p, 0), (q, 0)), "enough"),
                             (((p, 0), (p, 1), (q, 0)), "fewest")):
            self.assertEqual(showing_fault(BOTH, none, Showing(False, copies)), word)
        # For single kinds both copies of one kind are needed.
        self.assertEqual(showing_fault(ONE, none, Showing(False, ((p, 0), (q, 1)))), "enough")
        self.assertIsNone(showing_fault(ONE, none, Showing(False, ((q, 0), (q, 1)))))

    def test_it_keeps_what_it_is_given(self):
        right, copies = [object()], [object()]
        self.assertIs(Showing(right, copies).right, right)
        self.assertIs(Showing(right, copies).copies, copies)
        self.assertTrue(Showing(True, ()) == Showing(True, ()))
        for other in (Showing(False, ()), Showing(True, ((K, 0),)), None, (True, ())):
            self.assertTrue(Showing(True, ()) != other)
            self.assertFalse(Showing(True, ()) == other)
