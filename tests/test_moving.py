"""[10.1] to [10.3]: steps, moments, safe orders."""
import itertools
import random
import unittest

from meetwhere.cases import layings
from meetwhere.dealings import Dealing, all_kinds, everywhere
from meetwhere.errors import (Apart, BadCopies, BadQuestion, BadRoom, BadStep, BadUnion, TooMany)
from meetwhere.moving import Broken, NoOrder, after_steps, order_fault, safe_order, steps_between
from meetwhere.needless import copies_of, widest_hand
from meetwhere.rightness import is_right
from meetwhere.sorts import Sorts
from tests import plain
from tests.plain import NO_SEQUENCES, fault, in_lists, in_tuples, unchanged

ONE = ((("a",), ((0, ("a",)),), ()),)
BOTH = (((), ((0, ("a",)), (0, ("b",))), (("a", "b"),)),)
EIGHT = (((), tuple((0, (letter,)) for letter in plain.NAMES), ()),)
K = (0, (0,))
FRAMES = (((1,), Sorts((), 2), 2), ((1,), Sorts((0,), 1), 3), ((1,), Sorts((), 3), 2), ((1, 1), Sorts((), 1), 3))
NO_ROOMS = (-1, True, False, 1.0, "1", (), [1], {})


def dealing_with(frame, copies):
    """Return the dealing of a frame that has these copies."""
    lots = {}
    for kind, hand in copies:
        lots.setdefault(kind, []).append(hand)
    return Dealing(*frame, list(lots.items()))


def all_copies(frame):
    """Return all copies that a dealing of a frame can have, ascending."""
    return [(kind, hand) for kind in all_kinds(*frame[:2]) for hand in range(frame[2])]


def at_most(dealing, room):
    """Return whether no hand holds more kinds than the room lets."""
    return room is None or widest_hand(dealing)[1] <= room


def some_unions(number, widths):
    """Return a union over these widths made up by number, mostly one that needs rows together."""
    drawn = (plain.some_union(number, widths, 1, 2, 2), plain.some_union(number + 900, widths, 1, 3, 2))
    return ((ONE, BOTH) + drawn)[number % 4]


class Steps(unittest.TestCase):
    def test_copy_by_copy(self):
        for number in range(200):
            frame = FRAMES[number % 4]
            dealing = plain.some_dealing(number, *frame, 0.5)
            held, steps = set(copies_of(dealing)), []
            for k, copy in enumerate(all_copies(frame) * 2):
                if (number >> k % 7) & 1:
                    steps.append(("strike" if copy in held else "copy",) + copy)
                    held ^= {copy}
                    self.assertEqual(set(copies_of(after_steps(dealing, steps))), held)
            found = after_steps(dealing, tuple(steps))
            self.assertTrue(found == dealing_with(frame, sorted(held)))
            self.assertTrue(after_steps(dealing, in_lists(tuple(steps))) == found)

    def test_no_steps_and_many(self):
        dealing = plain.some_dealing(3, *FRAMES[2])
        self.assertTrue(after_steps(dealing, ()) == dealing)
        self.assertTrue(after_steps(dealing, []) == dealing)
        full = everywhere(*FRAMES[2])
        self.assertTrue(after_steps(full, [("strike", K, 1), ("copy", K, 1)] * 2000) == full)

    def test_wrong_steps(self):
        dealing = dealing_with(FRAMES[0], [(K, 0)])
        for thing in NO_SEQUENCES:
            self.assertEqual(fault(BadStep, after_steps, dealing, thing), (0,))
        wrong = [None, 5, "abc", (), ("copy", K), ("copy", K, 1, 1), ("fill", 0, 1), ("clear", 0, 0), (True, K, 1),
                 ("Copy", K, 1), (None, K, 1), (["copy"], K, 1), ("copy", None, 1), ("copy", (0, (2,)), 1),
                 ("copy", (1, (0,)), 1),
                 ("copy", (0, (False,)), 1), ("copy", (0, (0, 0)), 1), ("copy", 0, 1), ("copy", K, 2), ("copy", K, -1),
                 ("copy", K, True), ("copy", K, None), ("copy", K, "1"), ("strike", K, False), {0: "copy", 1: K, 2: 1},
                 # What cannot be done: it is held already, or is not held.
                 ("copy", K, 0), ("strike", K, 1), ("strike", (0, (1,)), 0)]
        for thing in wrong:
            self.assertEqual(fault(BadStep, after_steps, dealing, [thing, None]), (0,), thing)
            ahead = [("copy", (0, (1,)), 1), ("strike", (0, (1,)), 1)]
            self.assertEqual(fault(BadStep, after_steps, dealing, ahead + [thing, None]), (2,), thing)
            self.assertEqual(fault(BadStep, order_fault, ONE, dealing, ahead + [thing, None], -1), (2,), thing)

    def test_what_the_steps_ahead_have_left(self):
        dealing = dealing_with(FRAMES[0], [(K, 0)])
        steps = [("strike", K, 0), ("copy", K, 0), ("copy", K, 1), ("strike", K, 1)]
        self.assertTrue(after_steps(dealing, steps) == dealing)
        self.assertEqual(fault(BadStep, after_steps, dealing, steps + steps[3:]), (4,))
        self.assertEqual(fault(BadStep, after_steps, dealing, steps[:1] * 2), (1,))
        self.assertEqual(fault(BadStep, after_steps, dealing, steps[2:3] * 2), (1,))

    def test_nothing_is_changed_or_kept(self):
        steps = [["copy", [0, [1]], 1]]
        found = after_steps(dealing_with(FRAMES[0], [(K, 0)]), steps)
        self.assertEqual(steps, [["copy", [0, [1]], 1]])
        plain.wreck(steps)
        self.assertEqual(copies_of(found), ((K, 0), ((0, (1,)), 1)))


class Between(unittest.TestCase):
    def test_copy_by_copy(self):
        for number in range(120):
            frame = FRAMES[number % 4]
            one, other = (plain.some_dealing(2 * number + k, *frame, (0.3, 0.6)[k]) for k in (0, 1))
            mine, theirs = set(copies_of(one)), set(copies_of(other))
            right = tuple([("copy",) + copy for copy in sorted(theirs - mine)]
                          + [("strike",) + copy for copy in sorted(mine - theirs)])
            self.assertEqual(steps_between(one, other), right)
            self.assertTrue(after_steps(one, right) == other)
            self.assertEqual(steps_between(one, one), ())

    def test_apart(self):
        one = everywhere((1,), Sorts((), 2), 2)
        for function in (steps_between, lambda one, other: safe_order(ONE, one, other, -1)):
            function = named(function)
            self.assertEqual(fault(Apart, function, one, everywhere((1, 1), Sorts((), 1), 3)), ("widths",))
            self.assertEqual(fault(Apart, function, one, everywhere((1,), Sorts((), 1), 3)), ("sorts",))
            self.assertEqual(fault(Apart, function, one, everywhere((1,), Sorts((), 2), 3)), ("hands",))


def named(function):
    """Return a function that has a plain name."""
    function.__name__ = "function"
    return function


class OrderFault(unittest.TestCase):
    def test_moment_by_moment(self):
        seen = []
        for number in range(600):
            made, frame = random.Random(number), FRAMES[number % 4]
            union = some_unions(made.randrange(100), frame[0])
            dealing = plain.some_dealing(number, *frame, made.choice((0.6, 0.8, 0.95)))
            held, steps = set(copies_of(dealing)), []
            for _ in range(made.randrange(6)):
                copy = made.choice(all_copies(frame))
                steps.append(("strike" if copy in held else "copy",) + copy)
                held ^= {copy}
            room = made.choice((None, 1, 2, widest_hand(dealing)[1]))
            right = None
            for moment in range(len(steps) + 1):
                now = after_steps(dealing, steps[:moment])
                if not is_right(union, now):
                    right = (moment, "right")
                elif not at_most(now, room):
                    right = (moment, "room")
                if right is not None:
                    break
            found = order_fault(union, dealing, steps, room)
            self.assertEqual(None if found is None else (found.moment, found.what), right)
            self.assertTrue(found is None or isinstance(found, Broken))
            seen.append((right and right[1], bool(right and right[0])))
        for key in ((None, False), ("right", False), ("right", True), ("room", False), ("room", True)):
            self.assertGreater(seen.count(key), 8, key)

    def test_words(self):
        one = dealing_with(FRAMES[0], [(K, 0), ((0, (1,)), 1)])
        self.assertTrue(order_fault(ONE, one, ()) is None)
        self.assertTrue(order_fault(ONE, one, (), 1) is None)
        self.assertTrue(order_fault(ONE, one, (), room=0) == Broken(0, "room"))
        self.assertTrue(order_fault(ONE, one, [("strike", K, 0)], 1) == Broken(1, "right"))
        self.assertTrue(order_fault(ONE, one, [("copy", K, 1)], 1) == Broken(1, "room"))
        steps = [("copy", K, 1), ("strike", K, 0), ("strike", K, 1)]
        self.assertTrue(order_fault(ONE, one, steps, 2) == Broken(3, "right"))
        # Not right and beyond the room as well: "right" comes first; an earlier moment comes ahead of that.
        self.assertTrue(order_fault(BOTH, one, (), 0) == Broken(0, "right"))
        self.assertTrue(order_fault(ONE, one, steps, 1) == Broken(1, "room"))
        self.assertTrue(order_fault((), dealing_with(FRAMES[0], []), (), 0) is None)

    def test_room_counts_all_kinds(self):
        full = everywhere((1, 1), Sorts((), 2), 2)
        self.assertTrue(order_fault(ONE, full, (), 4) is None)
        self.assertTrue(order_fault(ONE, full, (), 3) == Broken(0, "room"))
        self.assertTrue(order_fault(ONE, full, [("strike", (1, (0,)), hand) for hand in (0, 1)], 4) is None)

    def test_errors_in_their_order(self):
        one = everywhere(*FRAMES[0])
        self.assertEqual(fault(BadUnion, order_fault, None, one, None, -1), ("many", 0))
        self.assertEqual(fault(BadQuestion, order_fault, (None,), one, None, -1), ("form", 0))
        self.assertEqual(fault(BadStep, order_fault, EIGHT, one, None, -1), (0,))
        for room in NO_ROOMS:
            self.assertEqual(fault(BadRoom, order_fault, EIGHT, one, (), room), (in_tuples(room),))
        self.assertEqual(fault(TooMany, order_fault, EIGHT, one, [("strike", K, 0)], 0), (1000,))

    def test_nothing_is_changed_or_kept(self):
        one = dealing_with(FRAMES[0], [(K, 0), ((0, (1,)), 1)])
        steps = (("copy", K, 1), ("strike", K, 0))
        self.assertIsNone(unchanged(self, lambda union, given: order_fault(union, one, given, 2), ONE, steps))


def plain_reach(union, one, touched, room):
    """Return how many steps lead to each safe dealing, told by its copies, through safe ones."""
    frame = (one.widths, one.sorts, one.hands)
    start = frozenset(copies_of(one))
    known = {}

    def is_safe(copies):
        if copies not in known:
            dealing = dealing_with(frame, sorted(copies))
            known[copies] = is_right(union, dealing) and at_most(dealing, room)
        return known[copies]

    reached = {start: 0} if is_safe(start) else {}
    border = list(reached)
    while border:
        further = []
        for copies in border:
            for copy in touched:
                other = copies ^ {copy}
                if other not in reached and is_safe(other):
                    reached[other] = reached[copies] + 1
                    further.append(other)
        border = further
    return reached


class SafeOrder(unittest.TestCase):
    def test_example(self):
        one, other = dealing_with(((1,), Sorts((), 1), 2), [(K, 0)]), dealing_with(((1,), Sorts((), 1), 2), [(K, 1)])
        self.assertEqual(safe_order(ONE, one, other, 1), (("copy", K, 1), ("strike", K, 0)))

    def test_against_going_through_all_orders(self):
        seen = []
        for number in range(500):
            made, frame = random.Random(number), FRAMES[number % 4]
            union = some_unions(made.randrange(100), frame[0])
            one, other = (plain.some_dealing(made.random(), *frame, made.choice((0.4, 0.6, 0.8))) for _ in (0, 1))
            if number % 3 == 0:
                # Two kinds, each at a hand of its own: here the room often asks for roundabout ways.
                union, frame = ONE, FRAMES[1]
                one, other = (Dealing(*frame, [((0, (k,)), [hand]) for k, hand in enumerate(made.sample(range(3), 2))])
                              for _ in (0, 1))
            spare = tuple(made.sample(all_copies(frame), made.choice((0, 1, 2, 3))))
            room = made.choice((None, 1, max(widest_hand(one)[1], widest_hand(other)[1])))
            touched = sorted(set(copies_of(one)) ^ set(copies_of(other)) | set(spare))
            reached = plain_reach(union, one, touched, room)
            goal = frozenset(copies_of(other))
            found = safe_order(union, one, other, room, spare)
            if goal not in reached:
                self.assertTrue(found == NoOrder(len(reached)), (found, len(reached)))
                seen.append(min(len(reached), 2))
                continue
            seen.append("more" if reached[goal] > len(set(copies_of(one)) ^ goal) else "order")
            self.assertEqual(len(found), reached[goal])
            self.assertTrue(after_steps(one, found) == other)
            self.assertIsNone(order_fault(union, one, found, room))
            self.assertTrue(all((kind, hand) in touched for _, kind, hand in found))
            self.assertTrue(plain.is_deep_tuple(found))
        for key in (0, 1, 2, "more", "order"):
            self.assertGreater(seen.count(key), 3, key)

    def test_without_a_room(self):
        seen = 0
        for number in range(120):
            frame = FRAMES[number % 4]
            union = some_unions(number // 4, frame[0])
            one, other = (plain.some_dealing(3 * number + k, *frame, 0.8) for k in (0, 1))
            found = safe_order(union, one, other)
            right = is_right(union, one) and is_right(union, other)
            self.assertIs(isinstance(found, tuple), right)
            if right:
                self.assertEqual(len(found), len(set(copies_of(one)) ^ set(copies_of(other))))
                self.assertIsNone(order_fault(union, one, steps_between(one, other)))
                seen += 1
        self.assertGreater(seen, 30)

    def test_equal_dealings(self):
        one = dealing_with(FRAMES[0], [(K, 0), ((0, (1,)), 1)])
        self.assertEqual(safe_order(ONE, one, one), ())
        self.assertEqual(safe_order(ONE, one, dealing_with(FRAMES[0], copies_of(one)), 1, [(K, 1)]), ())
        self.assertTrue(safe_order(BOTH, one, one) == NoOrder(0))
        self.assertTrue(safe_order(ONE, one, one, 0) == NoOrder(0))
        self.assertEqual(safe_order((), dealing_with(FRAMES[0], []), dealing_with(FRAMES[0], []), 0), ())

    def test_rooms(self):
        frame = ((1,), Sorts((), 2), 3)
        p, q = all_kinds(*frame[:2])
        one, other = dealing_with(frame, [(p, 0), (q, 1)]), dealing_with(frame, [(p, 1), (q, 0)])
        # Both change places: within room 1 only by way of hand 2, and that is not let without spare copies.
        self.assertTrue(safe_order(ONE, one, other, 1) == NoOrder(1))
        found = safe_order(ONE, one, other, 1, [(p, 2)])
        self.assertEqual(len(found), 6)
        self.assertEqual(found[0], ("copy", p, 2))
        self.assertIsNone(order_fault(ONE, one, found, 1))
        self.assertEqual(len(safe_order(ONE, one, other, 2)), 4)
        self.assertEqual(len(safe_order(ONE, one, other, None)), 4)
        # What just one of them holds and is spare, too, counts once.
        self.assertEqual(len(safe_order(ONE, one, other, 1, [(p, 2), (p, 0), [[0, [1]], 1]])), 6)
        self.assertTrue(safe_order(ONE, one, other, 0) == NoOrder(0))
        # The dealing that is asked for is not safe, or not right.
        wide = dealing_with(frame, [(p, 0), (q, 0)])
        self.assertTrue(safe_order(ONE, one, wide, 1) == NoOrder(1))
        self.assertTrue(safe_order(ONE, one, dealing_with(frame, [(p, 0)])) == NoOrder(1))
        self.assertEqual(len(safe_order(ONE, one, wide, 2)), 2)

    def test_reached_counts_the_first_one(self):
        frame = ((1,), Sorts((), 1), 3)
        one, none = dealing_with(frame, [(K, 0)]), dealing_with(frame, [])
        self.assertTrue(safe_order(ONE, one, none) == NoOrder(1))
        self.assertTrue(safe_order(ONE, one, none, None, [(K, 1)]) == NoOrder(3))
        self.assertTrue(safe_order(ONE, one, none, None, [(K, 1), (K, 2)]) == NoOrder(7))
        self.assertTrue(safe_order(ONE, none, one, None, [(K, 1), (K, 2)]) == NoOrder(0))

    def test_nine_copies_and_ten(self):
        frame = ((1,), Sorts((), 5), 2)
        copies = all_copies(frame)
        one = dealing_with(frame, [copy for copy in copies if copy[1] == 0])
        other = dealing_with(frame, [copy for copy in copies if copy[1] == 1])
        self.assertEqual(len(copies), 10)
        self.assertEqual(fault(TooMany, safe_order, ONE, one, other), (9,))
        near = dealing_with(frame, [copies[0]] + list(copies_of(other)))
        self.assertEqual(len(safe_order(ONE, one, near)), 9)
        self.assertEqual(fault(TooMany, safe_order, ONE, one, near, None, copies[:1]), (9,))
        self.assertEqual(len(safe_order(ONE, one, near, None, copies[1:9])), 9)
        self.assertEqual(safe_order(ONE, one, one, 6, copies[:9]), ())
        self.assertEqual(fault(TooMany, safe_order, ONE, dealing_with(frame, copies), dealing_with(frame, ())), (9,))

    def test_spare_copies_that_are_none(self):
        one = everywhere(*FRAMES[0])
        for thing in NO_SEQUENCES + ([(K, 0)] * 10,):
            self.assertEqual(fault(BadCopies, safe_order, EIGHT, one, one, None, thing), (0,))
        for thing in (None, 5, "ab", (), (K,), (K, 0, 0), (K, 2), (K, -1), (K, True), (K, None), ((0, (2,)), 0),
                      ((0, (True,)), 0), ((1, (0,)), 0), (None, 0), (0, 0), [[0, 0], 0], {0: K, 1: 0}):
            self.assertEqual(fault(BadCopies, safe_order, EIGHT, one, one, None, [thing]), (0,))
            self.assertEqual(fault(BadCopies, safe_order, EIGHT, one, one, None, [(K, 1), thing, 5]), (1,))
        self.assertEqual(fault(BadCopies, safe_order, EIGHT, one, one, None, [(K, 1), (K, 0), [[0, [0]], 1]]), (2,))
        self.assertEqual(safe_order(ONE, one, one, None, [[[0, [0]], 1], (K, 0)]), ())

    def test_errors_in_their_order(self):
        one = everywhere(*FRAMES[0])
        other = everywhere((1,), Sorts((), 3), 2)
        self.assertEqual(fault(BadUnion, safe_order, True, one, other, -1, None), ("many", 0))
        self.assertEqual(fault(BadQuestion, safe_order, (EIGHT[0], 5), one, other, -1, None), ("form", 0))
        self.assertEqual(fault(Apart, safe_order, EIGHT, one, other, -1, None), ("sorts",))
        for room in NO_ROOMS:
            self.assertEqual(fault(BadRoom, safe_order, EIGHT, one, one, room, None), (in_tuples(room),))
        frame = ((1,), Sorts((), 5), 2)
        full, none = everywhere(*frame), dealing_with(frame, ())
        self.assertEqual(fault(BadCopies, safe_order, EIGHT, full, none, None, [None]), (0,))
        self.assertEqual(fault(TooMany, safe_order, EIGHT, full, none), (9,))
        self.assertEqual(fault(TooMany, safe_order, EIGHT, one, one), (1000,))
        self.assertEqual([layings(7, 0, 1), layings(8, 0, 1)], [877, 4140])

    def test_nothing_is_changed_or_kept(self):
        one, other = dealing_with(FRAMES[0], [(K, 0)]), dealing_with(FRAMES[0], [(K, 1)])
        single = ((("a",), ((0, ("a",)),), ()),)
        nothing = (((), ((0, (0,)),), ()),)
        found = unchanged(self, lambda union, spare: safe_order(union, one, other, None, spare), nothing, ((K, 0),))
        self.assertEqual(found, (("copy", K, 1), ("strike", K, 0)))
        self.assertTrue(safe_order(single, one, other) == NoOrder(0))


class Results(unittest.TestCase):
    def test_they_keep_what_they_are_given(self):
        thing = [object()]
        self.assertIs(Broken(thing, 5).moment, thing)
        self.assertIs(Broken(5, thing).what, thing)
        self.assertIs(NoOrder(thing).reached, thing)
        every = (Broken(0, "right"), Broken(1, "right"), Broken(0, "room"), NoOrder(0), NoOrder(1), None, 0)
        for one, other in itertools.permutations(every, 2):
            self.assertTrue(one != other)
        self.assertTrue(Broken(0, "right") == Broken(0, "right") and NoOrder(3) == NoOrder(3))
