"""[6.6] to [6.8]: copies, needless ones, fewest that break a demand."""
import itertools
import unittest

from meetwhere.dealings import Dealing, all_kinds, everywhere
from meetwhere.demands import check_demands, unmet_demand
from meetwhere.errors import BadCopy, BadDemands, NotHeld, NotRight
from meetwhere.leastdealings import (copy_standings, fewest_within, least_dealings, least_room, least_under,
                                     room_table)
from meetwhere.needless import (Breaking, copied, copies_of, fewest_struck, needless_copies, struck, unneeded_copies,
                                widest_hand)
from meetwhere.sorts import Sorts
from tests import plain
from tests.plain import fault, in_tuples, unchanged
from tests.test_dealings import NO_KINDS
from tests.test_demands import is_met, some_demands

WIDTHS = (1, 2)
SORTS = Sorts((), 2)
KINDS = all_kinds(WIDTHS, SORTS)
P, Q, R, S = [(0, (sort,)) for sort in range(4)]
FOUR = everywhere((1,), Sorts((), 4), 2)


def settings(many, hands=(1, 2, 3)):
    """Yield dealings and demands made up by number; most of the demands are met."""
    for number in range(many):
        dealing = plain.some_dealing(number, WIDTHS, SORTS, hands[number % len(hands)], 0.75)
        demands = some_demands(number, KINDS, 7, 3)
        yield dealing, [demand for demand in demands if is_met(dealing, demand) or number % 10 == 0]


class Copies(unittest.TestCase):
    def test_copies_of(self):
        for number in range(40):
            dealing = plain.some_dealing(number, WIDTHS, SORTS, 1 + number % 8)
            right = tuple((kind, hand) for kind in KINDS for hand in range(dealing.hands)
                          if hand in dealing.lot_of(kind))
            self.assertEqual(copies_of(dealing), right)
        self.assertEqual(copies_of(Dealing(WIDTHS, SORTS, 2, ())), ())

    def test_struck_and_copied(self):
        for number in range(30):
            dealing = plain.some_dealing(number, WIDTHS, SORTS, 1 + number % 4)
            copies = copies_of(dealing)
            for kind, hand in itertools.product(KINDS, range(dealing.hands)):
                told = plain.in_lists(kind)
                made = copied(dealing, told, hand)
                self.assertEqual(copies_of(made), tuple(sorted(set(copies) | {(kind, hand)})))
                if (kind, hand) in copies:
                    self.assertTrue(made == dealing)
                    made = struck(dealing, told, hand)
                    self.assertEqual(copies_of(made), tuple(copy for copy in copies if copy != (kind, hand)))
                else:
                    self.assertEqual(fault(NotHeld, struck, dealing, told, hand), (kind, hand))
            self.assertEqual(copies_of(dealing), copies)

    def test_not_held(self):
        full = everywhere(WIDTHS, SORTS, 2)
        for thing in NO_KINDS:
            self.assertEqual(fault(NotHeld, struck, full, thing, 0), (in_tuples(thing), 0))
        for thing in (2, -1, True, False, None, "0", 0.0, [0], {}):
            self.assertEqual(fault(NotHeld, struck, full, P, thing), (P, in_tuples(thing)))
        self.assertEqual(fault(NotHeld, struck, full, None, None), (None, None))

    def test_bad_copy(self):
        full = everywhere(WIDTHS, SORTS, 2)
        for thing in NO_KINDS:
            self.assertEqual(fault(BadCopy, copied, full, thing, 9), ("kind",))
        for thing in (2, -1, True, False, None, "0", 0.0, [0]):
            self.assertEqual(fault(BadCopy, copied, full, P, thing), ("hand",))

    def test_widest_hand(self):
        self.assertEqual(widest_hand(Dealing(WIDTHS, SORTS, 8, ())), (0, 0))
        self.assertEqual(widest_hand(everywhere(WIDTHS, SORTS, 8)), (0, 6))
        self.assertEqual(widest_hand(everywhere(WIDTHS, SORTS, 8).without((0, 1))), (2, 6))
        for number in range(40):
            dealing = plain.some_dealing(number, WIDTHS, SORTS, 1 + number % 8)
            numbers = [sum(hand in lot for _, lot in dealing.rule) for hand in range(dealing.hands)]
            self.assertEqual(widest_hand(dealing), (numbers.index(max(numbers)), max(numbers)))


class Needless(unittest.TestCase):
    def test_against_striking_each(self):
        seen = set()
        for dealing, demands in settings(150):
            unmet = unmet_demand(dealing, demands)
            seen.add(unmet is None)
            if unmet is not None:
                self.assertEqual(fault(NotRight, needless_copies, dealing, demands), (unmet,))
                continue
            right = tuple(copy for copy in copies_of(dealing) if unmet_demand(struck(dealing, *copy), demands) is None)
            nested = tuple(tuple(demand) for demand in demands)
            self.assertEqual(unchanged(self, needless_copies, dealing, nested), right)
        self.assertEqual(seen, {True, False})

    def test_two_are_needless_but_not_together(self):
        dealing = everywhere((1,), Sorts((), 1), 2)
        self.assertEqual(needless_copies(dealing, [[P]]), ((P, 0), (P, 1)))
        self.assertEqual(needless_copies(struck(dealing, P, 0), [[P]]), ())
        self.assertEqual(needless_copies(dealing, ()), ((P, 0), (P, 1)))

    def test_unneeded(self):
        for dealing, demands in settings(80):
            asked = {kind for demand in demands for kind in demand}
            found = unneeded_copies(dealing, demands)
            self.assertEqual(found, tuple(copy for copy in copies_of(dealing) if copy[0] not in asked))
            left = dealing
            for copy in found:
                left = struck(left, *copy)
            self.assertEqual(unmet_demand(left, demands), unmet_demand(dealing, demands))
        nowhere = Dealing((1,), Sorts((), 4), 2, [(S, (0,))])
        self.assertEqual(unneeded_copies(nowhere, [[P, Q]]), ((S, 0),))
        self.assertEqual(unneeded_copies(FOUR, ()), copies_of(FOUR))
        self.assertEqual(unchanged(self, unneeded_copies, FOUR, ((P, Q, R),)), ((S, 0), (S, 1)))


class FewestStruck(unittest.TestCase):
    def test_against_striking_all_lots(self):
        for dealing, demands in settings(60, (1, 2)):
            if unmet_demand(dealing, demands) is not None:
                self.assertEqual(fault(NotRight, fewest_struck, dealing, demands), (unmet_demand(dealing, demands),))
                continue
            found = fewest_struck(dealing, demands)
            if not demands:
                self.assertIsNone(found)
                continue
            tidy = check_demands(dealing, demands)
            numbers = [sum(set(demand) <= set(dealing.held(hand)) for hand in range(dealing.hands)) for demand in tidy]
            self.assertEqual(found.demand, tidy[numbers.index(min(numbers))])
            self.assertEqual(found.copies, tuple((found.demand[0], hand) for hand in range(dealing.hands)
                                                 if set(found.demand) <= set(dealing.held(hand))))
            self.assertFalse(is_met(self.after(dealing, found.copies), found.demand))
            for many in range(len(found.copies)):
                for lot in itertools.combinations(copies_of(dealing), many):
                    self.assertIsNone(unmet_demand(self.after(dealing, lot), demands))

    def after(self, dealing, copies):
        """Return the dealing without copies."""
        for copy in copies:
            dealing = struck(dealing, *copy)
        return dealing

    def test_ordinary(self):
        self.assertIsNone(fewest_struck(FOUR, []))
        self.assertTrue(fewest_struck(FOUR, [[Q, R], [R, S]]) == Breaking(((Q, 0), (Q, 1)), (Q, R)))
        less = struck(FOUR, S, 0)
        self.assertTrue(fewest_struck(less, [[Q, R], [R, S]]) == Breaking(((R, 1),), (R, S)))
        self.assertTrue(fewest_struck(everywhere((1,), Sorts((), 4), 8), ([P],))
                        == Breaking(tuple((P, hand) for hand in range(8)), (P,)))

    def test_breaking_is_a_result(self):
        copies, demand = [object()], [object()]
        self.assertIs(Breaking(copies, demand).copies, copies)
        self.assertIs(Breaking(copies, demand).demand, demand)
        self.assertTrue(Breaking((), (P,)) == Breaking((), (P,)))
        for other in (Breaking(((P, 0),), (P,)), Breaking((), (Q,)), None, ((), (P,))):
            self.assertTrue(Breaking((), (P,)) != other)


class Errors(unittest.TestCase):
    def test_demands_come_ahead_of_rightness(self):
        nowhere = Dealing((1,), Sorts((), 4), 2, [(P, (0,)), (Q, (1,))])

        def all_least(dealing, demands):
            return list(least_dealings(dealing, demands))

        for function in (needless_copies, fewest_struck, least_under, all_least, copy_standings, fewest_within,
                         least_room, room_table):
            self.assertEqual(fault(BadDemands, function, nowhere, None), (0, "many"))
            self.assertEqual(fault(BadDemands, function, nowhere, [[P, Q], ()]), (1, "demand"))
            self.assertEqual(fault(BadDemands, function, nowhere, [[P, Q], [(0, (True,))]]), (1, "kind"))
            self.assertEqual(fault(NotRight, function, nowhere, [[P, Q]]), ((P, Q),))
            self.assertEqual(fault(NotRight, function, nowhere, ([Q, [0, [0]]], [P, R, P], [S])), ((P, Q),))
        self.assertEqual(fault(BadDemands, unneeded_copies, nowhere, [[P, Q], ()]), (1, "demand"))
        self.assertEqual(unneeded_copies(nowhere, [[P, Q]]), ())
