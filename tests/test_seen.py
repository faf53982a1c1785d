"""[10.4] to [10.6]: sights of a dealing that is not known, and looks at it."""
import functools
import itertools
import random
import unittest

from meetwhere.dealings import all_kinds, everywhere
from meetwhere.errors import (Apart, BadCopy, BadHands, BadQuestion, BadSeen, BadUnion, BadWidths, Clash, TooMany)
from meetwhere.leastness import needed_kinds
from meetwhere.needless import copies_of
from meetwhere.rightness import is_right
from meetwhere.seen import (Seen, fewest_looks, next_look, poorest, richest, right_ways, surely_right, surely_wrong,
                            telling_copies)
from meetwhere.sorts import Sorts
from tests import plain
from tests.plain import GREATEST, NO_SEQUENCES, fault, in_lists, in_tuples, unchanged
from tests.test_moving import BOTH, EIGHT, K, ONE, all_copies, dealing_with, some_unions

FRAMES = (((1,), Sorts((), 2), 2), ((1,), Sorts((0,), 1), 3), ((1,), Sorts((), 3), 2), ((1, 1), Sorts((), 1), 3))


KNOWN = {}


def all_dealings(frame):
    """Return all dealings of a frame."""
    key = (frame[0], frame[1].named, frame[1].modulus, frame[2])
    if key not in KNOWN:
        copies = all_copies(frame)
        KNOWN[key] = [dealing_with(frame, part) for many in range(len(copies) + 1)
                      for part in itertools.combinations(copies, many)]
    return KNOWN[key]


def fits(dealing, sights):
    """Return whether a dealing deals as the sights tell."""
    return all(plain.at_hand(dealing, tuple(sorted(set(store))), hand) == tuple(sorted(set(rows)))
               for store, hand, rows in sights)


def some_sights(made, frame, many, true_ones=True):
    """Return sights made up by a source, true ones of one dealing unless told otherwise."""
    dealing = plain.some_dealing(made.random(), *frame, made.choice((0.2, 0.5, 0.9, 1)))
    sights = []
    for _ in range(many):
        hand = made.randrange(frame[2])
        store = plain.some_store(made.random(), frame[0], 3, 2)
        rows = plain.at_hand(dealing, store, hand)
        if not true_ones and made.random() < 0.3:
            rows = tuple(row for row in store if made.random() < 0.5)
        sights.append((store, hand, rows))
    return tuple(sights)


def settings(many, most_sights=3):
    """Yield frames, what is seen of a dealing, and the dealings that fit, made up by number."""
    for number in range(many):
        made, frame = random.Random(number), FRAMES[number % 4]
        sights = some_sights(made, frame, made.randrange(most_sights + 1))
        yield frame, Seen(*frame, sights), [dealing for dealing in all_dealings(frame) if fits(dealing, sights)]


class Made(unittest.TestCase):
    def test_found_and_missing_against_all_dealings(self):
        for frame, seen, fitting in settings(160):
            held = [set(copies_of(dealing)) for dealing in fitting]
            self.assertEqual(seen.found, tuple(copy for copy in all_copies(frame) if all(copy in one for one in held)))
            self.assertEqual(seen.missing,
                             tuple(copy for copy in all_copies(frame) if not any(copy in one for one in held)))
            for kind, hand in all_copies(frame):
                told = {(kind, hand) in one for one in held}
                right = None if len(told) == 2 else told.pop()
                self.assertIs(seen.is_held(kind, hand), right)
                self.assertIs(seen.is_held([kind[0], list(kind[1])], hand), right)
            for dealing in all_dealings(frame):
                self.assertIs(seen.fits(dealing), dealing in fitting)
            self.assertEqual(len(held), 2 ** (len(all_copies(frame)) - len(seen.found) - len(seen.missing)))

    def test_clashes_against_all_dealings(self):
        clashes = []
        for number in range(200):
            made, frame = random.Random(number), FRAMES[number % 4]
            sights = some_sights(made, frame, 5, False)
            right = None
            for index in range(5):
                if not any(fits(dealing, sights[:index + 1]) for dealing in all_dealings(frame)):
                    right = index
                    break
            if right is None:
                self.assertEqual(Seen(*frame, sights).sights, sights)
            else:
                self.assertEqual(fault(Clash, Seen, *frame, sights), (right,))
            clashes.append(right)
        for index in (None, 0, 1, 2, 3):
            self.assertGreater(clashes.count(index), 3)

    def test_clashes(self):
        frame = ((1,), Sorts((), 2), 2)
        two = ((0, (1,)), (0, (3,)))
        self.assertEqual(fault(Clash, Seen, *frame, [(two, 0, two[:1])]), (0,))
        self.assertEqual(Seen(*frame, [(two, 0, two)]).found, (((0, (1,)), 0),))
        self.assertEqual(Seen(*frame, [(two, 0, ())]).missing, (((0, (1,)), 0),))
        sights = [((), 1, ()), (two[:1], 1, two[:1]), (two[1:], 0, ()), (two, 1, ()), None]
        self.assertEqual(fault(BadSeen, Seen, *frame, sights), (4,))
        self.assertEqual(fault(Clash, Seen, *frame, sights[:4]), (3,))
        self.assertEqual((Seen(*frame, sights[:3]).found, Seen(*frame, sights[:3]).missing),
                         ((((0, (1,)), 1),), (((0, (1,)), 0),)))

    def test_no_sights_and_empty_stores(self):
        for frame in FRAMES:
            for seen in (Seen(*frame), Seen(*frame, []), Seen(*frame, sights=[((), 1, ()), [[], 0, []]])):
                self.assertEqual((seen.found, seen.missing), ((), ()))
                self.assertTrue(poorest(seen) == dealing_with(frame, ()))
                self.assertTrue(richest(seen) == everywhere(*frame))
        self.assertEqual(Seen(*FRAMES[0]).sights, ())
        self.assertEqual(Seen(*FRAMES[0], [[[], 0, []]]).sights, (((), 0, ()),))

    def test_attributes(self):
        sorts = Sorts((), 2)
        given = [1], [[[[0, [3]], (0, (2,)), (0, (3,))], 1, [(0, [2]), [0, (2,)]]]]
        before = in_lists(in_tuples(given))
        seen = Seen(given[0], sorts, 2, given[1])
        self.assertEqual(in_lists(in_tuples(given)), before)
        plain.wreck(given[0])
        plain.wreck(given[1])
        self.assertEqual((seen.widths, seen.sorts, seen.hands), ((1,), sorts, 2))
        self.assertEqual(seen.sights, ((((0, (2,)), (0, (3,))), 1, ((0, (2,)),)),))
        self.assertEqual((seen.found, seen.missing), ((((0, (0,)), 1),), (((0, (1,)), 1),)))

    def test_twenty_sights_and_sixty_rows(self):
        sight = (tuple((0, (value,)) for value in range(60)), 0, tuple((0, (value,)) for value in range(0, 60, 2)))
        seen = Seen((1,), Sorts((), 2), 1, [sight] * 20)
        self.assertEqual((len(seen.sights), seen.found, seen.missing), (20, (((0, (0,)), 0),), (((0, (1,)), 0),)))
        self.assertEqual(fault(BadSeen, Seen, (1,), Sorts((), 2), 1, [sight] * 21), (0,))
        self.assertEqual(fault(BadSeen, seen.with_sight, *sight), (0,))
        # A store has at most 60 rows, doubles counted; the rows that were dealt may be told more often.
        more = (sight[0] + sight[0][:1], 0, sight[2])
        self.assertEqual(fault(BadSeen, Seen, (1,), Sorts((), 2), 1, [sight, more]), (1,))
        self.assertEqual(Seen((1,), Sorts((), 2), 1, [(sight[0], 0, sight[2] * 3)]).sights, (sight,))

    def test_errors_in_their_order(self):
        sorts = Sorts((), 2)
        self.assertEqual(fault(BadWidths, Seen, (4,), sorts, 0, None), (0,))
        for hands in (0, 9, -1, True, False, None, "2", 2.0, (2,), [2]):
            self.assertEqual(fault(BadHands, Seen, (1,), sorts, hands, None), (in_tuples(hands),))
        for thing in NO_SEQUENCES:
            self.assertEqual(fault(BadSeen, Seen, (1,), sorts, 2, thing), (0,))
        row, other = (0, (1,)), (0, (2,))
        wrong = [None, 5, "abc", (), (row,), ((row,), 0), ((row,), 0, (row,), 0), (None, 0, ()), ((row,), 0, None),
                 ((row,), 2, ()), ((row,), -1, ()), ((row,), True, ()), ((row,), None, ()), ((row,), "0", ()),
                 (row, 0, ()), (((0, (True,)),), 0, ()), ((row, None), 0, ()), (((0, (1, 1)),), 0, ()),
                 (((1, (1,)),), 0, ()), (((0, (-1,)),), 0, ()), (((0, (GREATEST + 1,)),), 0, ()), ((row,) * 61, 0, ()),
                 ((row,), 0, (other,)), ((), 0, (row,)), ((row,), 0, ((0, (True,)),)), ((row,), 0, ((False, (1,)),)),
                 ((row,), 0, (row, None)), ((row,), 0, row), ((row,), 0, ((0, 1),)), {0: (), 1: 0, 2: ()}]
        for thing in wrong:
            self.assertEqual(fault(BadSeen, Seen, (1,), sorts, 2, [thing]), (0,), thing)
            # All forms are looked at ahead of clashes.
            sights = [((row,), 0, ()), ((row,), 0, (row,)), thing, None]
            self.assertEqual(fault(BadSeen, Seen, (1,), sorts, 2, sights), (2,), thing)

    def test_equal(self):
        row = (0, (1,))
        one = Seen((1,), Sorts((), 2), 2, [((row,), 0, (row,))])
        self.assertTrue(one == Seen([1], Sorts([], 2), 2, [[[row, row], 0, [row]]]))
        self.assertFalse(one != Seen([1], Sorts([], 2), 2, [[[row, row], 0, [row]]]))
        self.assertTrue(Seen((1,), Sorts((), 2), 2) != Seen((1,), Sorts((), 1), 2))
        for other in (Seen((1, 1), Sorts((), 2), 2, one.sights), Seen((1,), Sorts((), 1), 2, one.sights),
                      Seen((1,), Sorts((), 2), 3, one.sights), Seen((1,), Sorts((), 2), 2), None, one.sights,
                      Seen((1,), Sorts((), 2), 2, one.sights * 2), poorest(one),
                      Seen((1,), Sorts((), 2), 2, [((row,), 0, ())])):
            self.assertTrue(one != other)
            self.assertFalse(one == other)


class Methods(unittest.TestCase):
    def setUp(self):
        self.seen = Seen((1,), Sorts((), 2), 2, [(((0, (1,)),), 0, ((0, (1,)),))])

    def test_is_held_errors(self):
        for kind in (None, 0, "ab", (), (0,), (0, (2,)), (1, (0,)), (0, (True,)), (True, (0,)), (0, (0, 0)), (0, 0)):
            self.assertEqual(fault(BadCopy, self.seen.is_held, kind, None), ("kind",))
        for hand in (2, -1, True, False, None, "0", 0.0, (0,)):
            self.assertEqual(fault(BadCopy, self.seen.is_held, [0, [0]], hand), ("hand",))

    def test_fits_errors(self):
        self.assertEqual(fault(Apart, self.seen.fits, everywhere((1, 1), Sorts((), 1), 3)), ("widths",))
        self.assertEqual(fault(Apart, self.seen.fits, everywhere((1,), Sorts((0,), 1), 3)), ("sorts",))
        self.assertEqual(fault(Apart, self.seen.fits, everywhere((1,), Sorts((), 2), 3)), ("hands",))

    def test_with_sight(self):
        store, rows = [[0, [3]], [0, [2]]], [[0, [3]]]
        more = self.seen.with_sight(store, 1, rows)
        self.assertEqual((store, rows), ([[0, [3]], [0, [2]]], [[0, [3]]]))
        plain.wreck(store)
        self.assertEqual(more.sights, self.seen.sights + ((((0, (2,)), (0, (3,))), 1, ((0, (3,)),)),))
        self.assertEqual((more.found, more.missing), ((((0, (1,)), 0), ((0, (1,)), 1)), (((0, (0,)), 1),)))
        self.assertEqual((self.seen.found, self.seen.missing), ((((0, (1,)), 0),), ()))
        self.assertTrue(more == Seen((1,), Sorts((), 2), 2, more.sights))
        self.assertEqual(fault(Clash, self.seen.with_sight, ((0, (5,)),), 0, ()), (1,))
        self.assertEqual(fault(Clash, more.with_sight, ((0, (5,)),), 0, ()), (2,))
        for thing in (((None,), 0, ()), ((), 2, ()), ((), True, ()), ((), 0, None), (None, 0, ()),
                      ((), 0, ((0, (1,)),))):
            self.assertEqual(fault(BadSeen, self.seen.with_sight, *thing), (1,))

    def test_poorest_and_richest(self):
        for frame, seen, fitting in settings(100):
            self.assertTrue(poorest(seen) == min(fitting, key=lambda one: len(copies_of(one))))
            self.assertTrue(richest(seen) == max(fitting, key=lambda one: len(copies_of(one))))
            self.assertTrue(all(one.includes(poorest(seen)) and richest(seen).includes(one) for one in fitting))


class Ways(unittest.TestCase):
    def test_against_all_dealings(self):
        sure = []
        for number, (frame, seen, fitting) in enumerate(settings(240, 6)):
            union = some_unions(number // 4, frame[0])
            right = [dealing for dealing in fitting if is_right(union, dealing)]
            self.assertIs(surely_right(union, seen), len(right) == len(fitting))
            self.assertIs(surely_wrong(union, seen), not right)
            sure.append((surely_right(union, seen), surely_wrong(union, seen)))
            needed = needed_kinds(union, frame[1])
            ways = {tuple(copy for copy in copies_of(one) if copy[0] in needed) for one in fitting}
            good = {tuple(copy for copy in copies_of(one) if copy[0] in needed) for one in right}
            self.assertEqual(right_ways(union, seen), (len(good), len(ways)))
            rights = {frozenset(copies_of(one)): one in right for one in fitting}
            telling = tuple(copy for copy in all_copies(frame)
                            if any(copy in way and rights[way] and rights.get(way - {copy}) is False for way in rights))
            self.assertEqual(unchanged(self, lambda asked: telling_copies(asked, seen), union), telling)
        for key in ((True, False), (False, True), (False, False)):
            self.assertGreater(sure.count(key), 10)

    def test_example(self):
        seen = Seen((1,), Sorts((), 1), 2)
        self.assertEqual(right_ways(ONE, seen), (3, 4))
        self.assertEqual(telling_copies(ONE, seen), ((K, 0), (K, 1)))
        self.assertEqual(fewest_looks(ONE, seen), 2)
        self.assertEqual(next_look(ONE, seen), (K, 0))

    def test_hidden_copies_of_kinds_that_are_not_needed(self):
        seen = Seen((1, 1), Sorts((), 1), 2)
        self.assertEqual(right_ways(ONE, seen), (3, 4))
        self.assertEqual(telling_copies(ONE, seen), ((K, 0), (K, 1)))
        self.assertEqual(right_ways((), seen), (1, 1))
        self.assertEqual(telling_copies((), seen), ())
        self.assertEqual((surely_right((), seen), surely_wrong((), seen)), (True, False))
        # A hidden copy of a needed kind that never tells: at hand 1 the other kind is missing.
        row = (1, (0,))
        both = (((), ((0, ("a",)), (1, ("a",))), ()),)
        partly = Seen((1, 1), Sorts((), 1), 2, [((row,), 1, ())])
        self.assertEqual(right_ways(both, partly), (2, 8))
        self.assertEqual(telling_copies(both, partly), ((K, 0), ((1, (0,)), 0)))
        self.assertEqual((fewest_looks(both, partly), next_look(both, partly)), (2, (K, 0)))

    def test_ten_hidden_copies_and_eleven(self):
        five = (1,), Sorts((), 5), 2
        self.assertEqual(right_ways(ONE, Seen(*five)), (3 ** 5, 2 ** 10))
        self.assertEqual(len(telling_copies(ONE, Seen(*five))), 10)
        six = (1,), Sorts((), 6), 2
        sight = (((0, (0,)),), 0, ((0, (0,)),))
        for function in (right_ways, telling_copies, fewest_looks, next_look):
            self.assertEqual(fault(TooMany, function, ONE, Seen(*six, [sight])), (10,))
            self.assertEqual(fault(TooMany, function, ONE, Seen(*six)), (10,))
            # Also if it is sure, one way or the other.
            held = tuple((0, (value,)) for value in range(6))
            self.assertEqual(fault(TooMany, function, ONE, Seen((1,), Sorts((), 6), 3, [(held, 0, held)])), (10,))
            none = [(held[:1], hand, ()) for hand in range(3)]
            self.assertEqual(fault(TooMany, function, ONE, Seen((1,), Sorts((), 6), 3, none)), (10,))
        self.assertIs(surely_right(ONE, Seen((1,), Sorts((), 6), 3, [(held, 0, held)])), True)
        self.assertIs(surely_wrong(ONE, Seen((1,), Sorts((), 6), 3, none)), True)
        seen = Seen(*six, [sight, (sight[0], 1, ())])
        self.assertEqual(right_ways(ONE, seen), (3 ** 5, 2 ** 10))
        # Only needed kinds count.
        self.assertEqual(right_ways((((), ((0, (0,)),), ()),), Seen((1,), Sorts((0,), 6), 3)), (7, 8))

    def test_errors_in_their_order(self):
        for function in (surely_right, surely_wrong, right_ways, telling_copies, fewest_looks, next_look):
            seen = Seen((1,), Sorts((), 6), 3)
            for thing in NO_SEQUENCES:
                self.assertEqual(fault(BadUnion, function, thing, seen), ("many", 0))
            self.assertEqual(fault(BadQuestion, function, EIGHT + (None,), seen), ("form", 0))
            self.assertEqual(fault(BadQuestion, function, BOTH, Seen((2,), Sorts((), 6), 3)), ("width", 0))
            self.assertEqual(fault(TooMany, function, EIGHT, seen), (1000,))


class Looks(unittest.TestCase):
    def plain_looks(self, union, frame, fitting):
        """Return how many looks are needed and the first copies to look at, by going through all ways."""
        rights = {copies_of(one): is_right(union, one) for one in fitting}
        copies = all_copies(frame)

        @functools.cache
        def needed(ways):
            if len({rights[way] for way in ways}) < 2:
                return 0
            return 1 + min(behind(ways, copy) for copy in copies)

        def behind(ways, copy):
            parts = [tuple(way for way in ways if (copy in way) == told) for told in (True, False)]
            return max(needed(part) for part in parts) if all(parts) else 99

        ways = tuple(rights)
        first = [copy for copy in copies if needed(ways) and behind(ways, copy) < needed(ways)]
        return needed(ways), (first[0] if first else None)

    def test_against_going_through_all_ways(self):
        numbers = []
        for number, (frame, seen, fitting) in enumerate(settings(200, 3)):
            union = some_unions(number // 4, frame[0])
            right = self.plain_looks(union, frame, fitting)
            self.assertEqual((fewest_looks(union, seen), next_look(union, seen)), right)
            numbers.append(right[0])
        for many in (0, 1, 2, 3, 4):
            self.assertGreater(numbers.count(many), 2)

    def test_looks_that_do_not_begin_with_the_first_telling_copy(self):
        def couple(one, other):
            return ((), ((one, ("a",)), (other, ("b",))), ())
        rows = tuple((table, (0,)) for table in range(4))
        sights = (((rows[0::2], 0, rows[2:3]), (rows[1:2], 1, rows[1:2]), (rows[1::2], 2, rows[1:2])),
                  ((rows[:2], 0, rows[:1]), (rows[3:], 1, rows[3:]), (rows[:3], 2, rows[:3])))
        unions = ((couple(3, 1), couple(2, 3)), (couple(2, 1), couple(0, 2), couple(3, 0), couple(2, 3)))
        looks = ((3, ((3, (0,)), 0)), (4, ((2, (0,)), 1)))
        for union, told, right in zip(unions, sights, looks):
            seen = Seen((1,) * 4, Sorts((), 1), 3, told)
            frame = ((1,) * 4, Sorts((), 1), 3)
            hidden = [copy for copy in all_copies(frame) if copy not in seen.found + seen.missing]
            fitting = [dealing_with(frame, seen.found + part) for many in range(len(hidden) + 1)
                       for part in itertools.combinations(hidden, many)]
            self.assertEqual(self.plain_looks(union, frame, fitting), right)
            self.assertEqual((fewest_looks(union, seen), next_look(union, seen)), right)
            self.assertLess(telling_copies(union, seen)[0], right[1])

    def test_fewer_looks_than_telling_copies(self):
        # Each of three couples of kinds must lie at hand 0, which lacks p and r maybe, or at hand 1, which lacks
        # q and s maybe. A look at p first would need four looks, a look at q or r three.
        frame = ((1, 1, 1, 1), Sorts((), 1), 2)
        union = tuple(((), ((one, ("a",)), (other, ("b",))), ()) for one, other in ((0, 1), (2, 1), (2, 3)))
        p, q, r, s = all_kinds(*frame[:2])
        rows = [(table, (5,)) for table in range(4)]
        sights = [(rows[1::2], 0, rows[1::2]), (rows[0::2], 1, rows[0::2])]
        seen = Seen(*frame, sights)
        self.assertEqual(seen.found, ((p, 1), (q, 0), (r, 1), (s, 0)))
        self.assertEqual(telling_copies(union, seen), ((p, 0), (q, 1), (r, 0), (s, 1)))
        fitting = [dealing for dealing in all_dealings(frame) if fits(dealing, sights)]
        self.assertEqual(self.plain_looks(union, frame, fitting), (3, (q, 1)))
        self.assertEqual((fewest_looks(union, seen), next_look(union, seen)), (3, (q, 1)))
        self.assertEqual(next_look(union, seen.with_sight(rows[2:3], 0, rows[2:3])), (p, 0))

    def test_seven_telling_copies_and_eight(self):
        kinds = all_kinds((1,), Sorts((), 4))
        eight = Seen((1,), Sorts((), 4), 2)
        self.assertEqual(len(telling_copies(ONE, eight)), 8)
        for function in (fewest_looks, next_look):
            self.assertEqual(fault(TooMany, function, ONE, eight), (7,))
        seven = eight.with_sight([(0, (3,))], 1, [])
        self.assertEqual(len(telling_copies(ONE, seven)), 7)
        self.assertEqual((fewest_looks(ONE, seven), next_look(ONE, seven)), (7, (kinds[0], 0)))
        # Nine hidden copies of needed kinds, of which only the six at hand 0 tell.
        both = (((), ((0, ("a",)), (1, ("a",))), ()),)
        rows = tuple((1, (value,)) for value in range(3))
        partly = Seen((1, 1), Sorts((), 3), 2, [(rows, 1, ())])
        self.assertEqual((right_ways(both, partly), len(telling_copies(both, partly))), ((8, 2 ** 9), 6))
        self.assertEqual((fewest_looks(both, partly), next_look(both, partly)), (6, (K, 0)))

    def test_no_looks(self):
        row = (0, (0,))
        sure = Seen((1,), Sorts((), 1), 2, [((row,), 1, (row,))])
        self.assertEqual((fewest_looks(ONE, sure), next_look(ONE, sure)), (0, None))
        never = Seen((1,), Sorts((), 1), 2, [((row,), 0, ()), ((row,), 1, ())])
        self.assertEqual((fewest_looks(ONE, never), next_look(ONE, never)), (0, None))
        self.assertEqual((fewest_looks((), never), next_look((), never)), (0, None))
        half = Seen((1,), Sorts((), 1), 2, [((row,), 0, ())])
        self.assertEqual((fewest_looks(ONE, half), next_look(ONE, half)), (1, (K, 1)))
