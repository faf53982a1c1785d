"""[6.9] to [6.13]: least dealings, standings of copies, fewest copies within a room."""
import unittest

from meetwhere.dealings import Dealing, all_kinds, everywhere
from meetwhere.demands import clusters, unmet_demand
from meetwhere.errors import BadDemands, BadRoom, NotRight, TooMany
from meetwhere.leastdealings import (Fewest, NoRoom, Standings, copy_standings, fewest_within, least_dealings,
                                     least_room, least_under, room_table)
from meetwhere.needless import copies_of, needless_copies, struck, widest_hand
from meetwhere.sorts import Sorts
from tests import plain
from tests.plain import fault, unchanged
from tests.test_demands import all_within, is_met, some_demands

P, Q, R, S = [(0, (sort,)) for sort in range(4)]
THREE = everywhere((1,), Sorts((), 3), 2)
MANY = Sorts((), 6)


def settings(many):
    """Yield dealings with at most nine copies, demands that they meet, and all dealings within that meet them."""
    for number in range(many):
        sorts, hands = ((Sorts((), 3), 3), (Sorts((), 4), 2), (Sorts((), 3), 2), (Sorts((), 2), 4))[number % 4]
        dealing = plain.some_dealing(number, (1,), sorts, hands, 0.9)
        demands = [demand for demand in some_demands(number, all_kinds((1,), sorts), 4, 3) if is_met(dealing, demand)]
        meeting = [one for one in all_within(dealing) if all(is_met(one, demand) for demand in demands)]
        yield dealing, demands, meeting


def plain_least(meeting):
    """Return those of the dealings within which no other one of them lies, ascending by their copies."""
    copies = sorted(copies_of(one) for one in meeting)
    return [one for one in copies if not any(set(other) < set(one) for other in copies)]


class Example(unittest.TestCase):
    def test_two_demands(self):
        demands = [[P, Q], [P, R]]
        self.assertEqual(clusters(THREE, demands), ((P, Q, R),))
        found = [copies_of(one) for one in least_dealings(THREE, demands)]
        self.assertEqual(found, [((P, 0), (P, 1), (Q, 0), (R, 1)), ((P, 0), (P, 1), (Q, 1), (R, 0)),
                                 ((P, 0), (Q, 0), (R, 0)), ((P, 1), (Q, 1), (R, 1))])
        self.assertEqual(room_table(THREE, demands), ((2, 4), (3, 3)))
        self.assertEqual(fewest_within(THREE, demands).number, 3)
        self.assertEqual(fewest_within(THREE, demands, room=3).number, 3)
        self.assertEqual(fewest_within(THREE, demands, room=2).number, 4)
        self.assertTrue(fewest_within(THREE, demands, room=1) == NoRoom(2))
        self.assertEqual(least_room(THREE, demands), 2)

    def test_three_demands(self):
        dealing, demands = struck(THREE, R, 1), [[P, Q], [P, R], [Q, R]]
        self.assertEqual([copies_of(one) for one in least_dealings(dealing, demands)], [((P, 0), (Q, 0), (R, 0))])
        self.assertTrue(copy_standings(dealing, demands)
                        == Standings(((P, 0), (Q, 0), (R, 0)), (), ((P, 1), (Q, 1))))


class Least(unittest.TestCase):
    def test_against_all_dealings_within(self):
        for dealing, demands, meeting in settings(100):
            right = plain_least(meeting)
            found = list(least_dealings(dealing, demands))
            self.assertEqual([copies_of(one) for one in found], right)
            for one in found:
                self.assertEqual((one.widths, one.hands), (dealing.widths, dealing.hands))
                self.assertTrue(one.sorts == dealing.sorts)
                self.assertIsNone(unmet_demand(one, demands))
                self.assertEqual(needless_copies(one, demands), ())

    def test_least_under(self):
        for dealing, demands, meeting in settings(100):
            left = dealing
            for kind, lot in dealing.rule:
                for hand in lot[::-1]:
                    fewer = struck(left, kind, hand)
                    left = fewer if unmet_demand(fewer, demands) is None else left
            nested = tuple(tuple(demand) for demand in demands)
            found = unchanged(self, least_under, dealing, nested)
            self.assertTrue(found == left)
            self.assertIn(copies_of(found), plain_least(meeting))
        self.assertTrue(least_under(THREE, [[P, Q], [P, R]]) == Dealing((1,), Sorts((), 3), 2, [
            (kind, (0,)) for kind in (P, Q, R)]))

    def test_standings(self):
        for dealing, demands, meeting in settings(100):
            least = plain_least(meeting)
            copies = copies_of(dealing)
            fixed = tuple(copy for copy in copies if all(copy in one for one in least))
            idle = tuple(copy for copy in copies if not any(copy in one for one in least))
            free = tuple(copy for copy in copies if copy not in fixed + idle)
            nested = tuple(tuple(demand) for demand in demands)
            self.assertTrue(unchanged(self, copy_standings, dealing, nested) == Standings(fixed, free, idle))
            self.assertEqual(set(fixed), set(copies) - set(needless_copies(dealing, demands)))

    def test_no_demands(self):
        for dealing in (THREE, Dealing((1,), Sorts((), 3), 2, ())):
            self.assertEqual([copies_of(one) for one in least_dealings(dealing, ())], [()])
            self.assertEqual(copies_of(least_under(dealing, [])), ())
            self.assertTrue(copy_standings(dealing, ()) == Standings((), (), copies_of(dealing)))
            self.assertEqual(room_table(dealing, ()), ((0, 0),))
            self.assertEqual(least_room(dealing, ()), 0)
            self.assertTrue(fewest_within(dealing, (), room=0) == Fewest(0, Dealing((1,), Sorts((), 3), 2, ())))

    def test_kinds_that_no_demand_names(self):
        dealing = everywhere((1, 1), Sorts((), 2), 3)
        found = [copies_of(one) for one in least_dealings(dealing, [[[1, [0]], [1, [0]]]])]
        self.assertEqual(found, [(((1, (0,)), hand),) for hand in range(3)])
        standings = copy_standings(dealing, [[(1, (0,))]])
        self.assertEqual((standings.fixed, standings.free), ((), tuple(((1, (0,)), hand) for hand in range(3))))
        self.assertEqual(len(standings.idle), 9)

    def test_one_hand_and_eight(self):
        kinds = all_kinds((3,), MANY)
        one = everywhere((3,), MANY, 1)
        demands = [kinds[at:at + 60] for at in range(150)]
        held = tuple((kind, 0) for kind in kinds[:209])
        self.assertEqual([copies_of(least) for least in least_dealings(one, demands)], [held])
        self.assertEqual(room_table(one, demands), ((209, 209),))
        self.assertTrue(copy_standings(one, demands)
                        == Standings(held, (), tuple((kind, 0) for kind in kinds[209:])))
        self.assertEqual(copies_of(least_under(one, demands)), held)
        eight = everywhere((3,), MANY, 8)
        self.assertEqual(len(list(least_dealings(eight, [kinds[:20], kinds[10:30], kinds[40:90]]))), 8 ** 3)
        self.assertEqual(room_table(eight, [kinds[:20], kinds[10:30], kinds[40:90]]), ((50, 80),))

    def test_a_demand_that_fixed_copies_meet(self):
        dealing = Dealing((1,), Sorts((), 4), 2, [(P, (0, 1)), (Q, (0, 1)), (R, (0,)), (S, (0,))])
        demands = [[P, R], [Q, S], [P, Q]]
        self.assertEqual([copies_of(one) for one in least_dealings(dealing, demands)],
                         [((P, 0), (Q, 0), (R, 0), (S, 0))])
        self.assertEqual(copy_standings(dealing, demands).idle, ((P, 1), (Q, 1)))


class Room(unittest.TestCase):
    def test_against_all_dealings_within(self):
        for dealing, demands, meeting in settings(100):
            sized = [(widest_hand(one)[1], len(copies_of(one))) for one in meeting]
            table = []
            for room in range(len(copies_of(dealing)) + 2):
                numbers = [number for needed, number in sized if needed <= room]
                found = fewest_within(dealing, demands, room=room)
                if numbers:
                    self.check(dealing, demands, found, room)
                    self.assertEqual(found.number, min(numbers))
                    if not table or min(numbers) < table[-1][1]:
                        table.append((room, min(numbers)))
                else:
                    self.assertTrue(found == NoRoom(min(sized)[0]))
            self.assertEqual(room_table(dealing, demands), tuple(table))
            self.assertEqual(least_room(dealing, demands), table[0][0])
            found = fewest_within(dealing, demands)
            self.check(dealing, demands, found, 99)
            self.assertEqual(found.number, table[-1][1])
            self.assertEqual(fewest_within(dealing, demands, room=None).number, found.number)
            self.assertEqual(fewest_within(dealing, demands, room=10 ** 20).number, found.number)

    def check(self, dealing, demands, found, room):
        """Check a dealing with fewest copies."""
        self.assertIsInstance(found, Fewest)
        copies = copies_of(found.dealing)
        self.assertEqual(len(copies), found.number)
        self.assertLessEqual(set(copies), set(copies_of(dealing)))
        self.assertIsNone(unmet_demand(found.dealing, demands))
        self.assertLessEqual(widest_hand(found.dealing)[1], room)

    def test_rooms_that_are_none(self):
        nowhere = Dealing((1,), Sorts((), 3), 2, ())
        for room in (-1, True, False, 1.0, "1", (1,), {}):
            with self.assertRaises(BadRoom) as caught:
                fewest_within(nowhere, [[P]], room=room)
            self.assertEqual(caught.exception.room, room)
            with self.assertRaises(BadDemands):
                fewest_within(nowhere, [()], room=room)
        with self.assertRaises(BadRoom) as caught:
            fewest_within(nowhere, [[P]], room=[1])
        self.assertEqual(caught.exception.room, (1,))
        for room in (None, 0, 5):
            with self.assertRaises(NotRight):
                fewest_within(nowhere, [[P]], room=room)
        self.assertTrue(fewest_within(THREE, [[P]], room=0) == NoRoom(1))
        with self.assertRaises(TypeError):
            fewest_within(THREE, [[P]], 3)


class Ways(unittest.TestCase):
    def all_least(self, dealing, demands):
        return list(least_dealings(dealing, demands))

    def test_exactly_4096_ways_and_just_more(self):
        kinds = all_kinds((3,), MANY)
        functions = (self.all_least, copy_standings, fewest_within, least_room, room_table)
        for hands, many in ((2, 12), (4, 6), (8, 4)):
            dealing = everywhere((3,), MANY, hands)
            apart = [kinds[at * 2:at * 2 + 2] for at in range(many)]
            self.assertEqual(len(self.all_least(dealing, apart)), 4096)
            self.assertEqual(fewest_within(dealing, apart).number, many * 2)
            self.assertEqual(least_room(dealing, apart), -(-many // hands) * 2)
            self.assertEqual(copy_standings(dealing, apart).free, copies_of(dealing)[:many * 2 * hands])
            for function in functions:
                self.assertEqual(fault(TooMany, function, dealing, apart + [kinds[50:51]]), (4096,))
                self.assertEqual(fault(NotRight, function, dealing.with_lot(kinds[60], ()), apart + [kinds[50:51],
                                                                                                     kinds[60:61]]),
                                 (kinds[60:61],))
            # One hand more for one demand, or demands that one hand alone holds, make no difference to the bound.
            one_way = dealing.with_lot(kinds[50], (1,))
            self.assertEqual(len(self.all_least(one_way, apart + [kinds[50:51], kinds[:1]])), 4096)
            self.assertEqual(copies_of(least_under(dealing, apart + [kinds[50:51]]))[-1], (kinds[50], 0))

    def test_just_more_than_4096(self):
        kinds = all_kinds((3,), MANY)
        # 4,116 = 7 * 7 * 7 * 4 * 3 is the least product above 4,096 of numbers of hands.
        dealing = Dealing((3,), MANY, 8, [(kind, list(range(long))) for kind, long in zip(kinds, (7, 7, 7, 4, 3))])
        demands = [[kind] for kind in kinds[:5]]
        self.assertEqual(fault(TooMany, self.all_least, dealing, demands), (4096,))
        self.assertEqual(len(self.all_least(struck(dealing, kinds[4], 2), demands)), 7 ** 3 * 4 * 2)

    def test_too_many_comes_ahead_of_the_first_item(self):
        dealing = everywhere((3,), MANY, 2)
        with self.assertRaises(TooMany):
            for _ in least_dealings(dealing, [[kind] for kind in all_kinds((3,), MANY)[:13]]):
                self.fail("an item came first")


class Results(unittest.TestCase):
    def test_they_keep_the_very_things(self):
        things = [[object()] for _ in range(3)]
        for made, names in ((Standings(*things), ["fixed", "free", "idle"]), (NoRoom(things[0]), ["needed"]),
                            (Fewest(*things[:2]), ["number", "dealing"])):
            self.assertEqual(list(vars(made)), names)
            self.assertTrue(all(kept is thing for kept, thing in zip(vars(made).values(), things)))

    def test_equal(self):
        self.assertTrue(Standings((1,), (2,), (3,)) == Standings((1,), (2,), (3,)))
        self.assertTrue(Fewest(1, THREE) == Fewest(1, everywhere((1,), Sorts((), 3), 2)))
        self.assertTrue(NoRoom(3) == NoRoom(3))
        for one, others in ((Standings((1,), (2,), (3,)), (Standings((), (2,), (3,)), Standings((1,), (), (3,)), None,
                                                           Standings((1,), (2,), ()), ((1,), (2,), (3,)))),
                            (Fewest(1, THREE), (Fewest(2, THREE), Fewest(1, struck(THREE, P, 0)), None, NoRoom(1))),
                            (NoRoom(3), (NoRoom(2), 3, None, Fewest(3, THREE)))):
            for other in others:
                self.assertTrue(one != other)
                self.assertFalse(one == other)
