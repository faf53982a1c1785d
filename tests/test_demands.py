"""[6.1] to [6.5]: demands, tidy ones, those of a union, clusters, and demands that carry others."""
import itertools
import random
import unittest

from meetwhere.dealings import Dealing, all_kinds, everywhere
from meetwhere.demands import Carry, carries, check_demands, clusters, demands_of, unmet_demand
from meetwhere.errors import BadDemands, BadQuestion, BadUnion, TooMany
from meetwhere.rightness import is_right
from meetwhere.sorts import Sorts
from tests import plain
from tests.plain import NO_SEQUENCES, fault, unchanged
from tests.test_dealings import NO_KINDS
from tests.test_rightness import plain_least, settings

WIDTHS = (1, 2)
SORTS = Sorts((), 2)
FULL = everywhere(WIDTHS, SORTS, 2)
MANY = everywhere((3,), Sorts((), 6), 2)
P, Q, R, S = [(0, (sort,)) for sort in range(4)]
FOUR = everywhere((1,), Sorts((), 4), 2)
EIGHT = ((), tuple((0, (letter,)) for letter in plain.NAMES), ())


def some_demands(number, kinds, most=6, longest=4):
    """Return demands made up by number, untidy ones."""
    made = random.Random(number)
    return [[made.choice(kinds) for _ in range(made.randint(1, longest))] for _ in range(made.randint(0, most))]


def plain_tidy(demands):
    """Return the tidy demands, by the very words of [6.1]."""
    found = {frozenset(demand) for demand in demands}
    return tuple(sorted(tuple(sorted(demand)) for demand in found if not any(demand < other for other in found)))


def is_met(dealing, demand):
    """Return whether some hand holds all kinds of a demand."""
    return any(set(demand) <= set(dealing.held(hand)) for hand in range(dealing.hands))


def all_within(dealing):
    """Yield all dealings within a dealing."""
    copies = [(kind, hand) for kind, lot in dealing.rule for hand in lot]
    for many in range(len(copies) + 1):
        for chosen in itertools.combinations(copies, many):
            lots = {}
            for kind, hand in chosen:
                lots.setdefault(kind, []).append(hand)
            yield Dealing(dealing.widths, dealing.sorts, dealing.hands, list(lots.items()))


class Checked(unittest.TestCase):
    def test_against_the_words(self):
        for number in range(200):
            demands = some_demands(number, all_kinds(WIDTHS, SORTS), 9)
            self.assertEqual(check_demands(FULL, demands), plain_tidy(demands))
            nested = tuple(tuple(demand) for demand in demands)
            self.assertEqual(unchanged(self, check_demands, FULL, nested), plain_tidy(demands))

    def test_kinds_twice_as_lists_and_demands_twice(self):
        self.assertEqual(check_demands(FOUR, [[[0, [1]], Q, (0, [1])], (P, Q), [Q, P, P], [P]]), ((P, Q),))
        self.assertEqual(check_demands(FOUR, ([S], (R,), [R, S, R], [P])), ((P,), (R, S)))
        self.assertEqual(check_demands(FOUR, ()), ())
        self.assertEqual(check_demands(FOUR, [[P], [Q], [P, Q], [P, Q, R]]), ((P, Q, R),))

    def test_numbers_of_demands_and_of_kinds(self):
        kinds = all_kinds((3,), Sorts((), 6))
        couples = list(itertools.combinations(kinds, 2))[:6001]
        self.assertEqual(len(check_demands(MANY, couples[:6000])), 6000)
        self.assertEqual(fault(BadDemands, check_demands, MANY, couples), (0, "many"))
        self.assertEqual(fault(BadDemands, check_demands, MANY, [None] * 6001), (0, "many"))
        self.assertEqual(check_demands(MANY, [[kinds[0]]] * 6000), ((kinds[0],),))
        self.assertEqual(check_demands(MANY, [kinds[:60]]), (kinds[:60],))
        self.assertEqual(check_demands(MANY, [[kinds[0]] * 60]), (kinds[:1],))
        self.assertEqual(fault(BadDemands, check_demands, MANY, [kinds[:60], kinds[:61]]), (1, "demand"))
        self.assertEqual(fault(BadDemands, check_demands, MANY, [[kinds[0]] * 61]), (0, "demand"))

    def test_many_demands_that_are_parts(self):
        kinds = all_kinds((3,), Sorts((), 6))
        demands = [kinds[at:at + long] for at in range(100) for long in range(1, 61)]
        self.assertEqual(check_demands(MANY, demands), tuple(sorted(kinds[at:at + 60] for at in range(100))))
        # Behind each of the first 2,000 and the next demands one stands of which they are parts.
        shifted = sorted(itertools.combinations(kinds[:80], 2))[:2999] + [kinds[:40], kinds[20:80]]
        self.assertEqual(check_demands(MANY, shifted), plain_tidy(shifted))

    def test_errors_demand_by_demand(self):
        for function in (check_demands, unmet_demand, clusters):
            for thing in NO_SEQUENCES:
                self.assertEqual(fault(BadDemands, function, FOUR, thing), (0, "many"))
            for thing in NO_SEQUENCES + ((), []):
                self.assertEqual(fault(BadDemands, function, FOUR, [[P], thing, None]), (1, "demand"))
            for thing in [kind for kind in NO_KINDS if kind != (0, (2,))] + [(0, (4,)), [0, [4]]]:
                self.assertEqual(fault(BadDemands, function, FOUR, [[P], [Q], [P, thing, None], ()]), (2, "kind"))
            self.assertEqual(fault(BadDemands, function, FOUR, [[P, (0, (True,))], None]), (0, "kind"))
            self.assertEqual(fault(BadDemands, function, FOUR, [[(False, (0,))]]), (0, "kind"))


class OfUnions(unittest.TestCase):
    def test_against_a_plain_going_through_cases(self):
        for union, dealing in settings(150):
            demands = [[plain.kind_of(dealing.sorts, row) for row in rows]
                       for _, _, rows in plain_least(union, dealing)]
            found = unchanged(self, demands_of, union, dealing)
            self.assertEqual(found, plain_tidy(demands))
            unmet = [demand for demand in found if not is_met(dealing, demand)]
            self.assertEqual(unmet_demand(dealing, found), unmet[0] if unmet else None)
            self.assertIs(is_right(union, dealing), not unmet)

    def test_no_least_case(self):
        for union in ((), ((EIGHT[0], EIGHT[1][:1], (("a", "a"),)),)):
            self.assertEqual(demands_of(union, FOUR), ())

    def test_a_path(self):
        path = (("a", "c"), ((0, ("a", "b")), (0, ("b", "c"))), ())
        dealing = Dealing((2,), Sorts((), 2), 1, ())
        kinds = [(0, row) for row in itertools.product(range(2), repeat=2)]
        couples = [(one, two) for one, two in itertools.product(kinds, repeat=2) if one[1][1] == two[1][0]]
        self.assertEqual(demands_of((path,), dealing), plain_tidy(couples))

    def test_errors(self):
        self.assertEqual(fault(BadUnion, demands_of, None, FOUR), ("many", 0))
        self.assertEqual(fault(BadQuestion, demands_of, (((), ((1, ("a",)),), ()),), FOUR), ("table", 0))
        self.assertEqual(fault(TooMany, demands_of, (EIGHT,), FOUR), (1000,))


class Unmet(unittest.TestCase):
    def test_the_first_tidy_one(self):
        dealing = Dealing((1,), Sorts((), 4), 2, [(P, (0, 1)), (Q, (0,)), (R, (1,))])
        self.assertIsNone(unmet_demand(dealing, ()))
        self.assertIsNone(unmet_demand(dealing, [[P, Q], [P, R], [Q]]))
        self.assertEqual(unmet_demand(dealing, [[R, Q], [P, Q]]), (Q, R))
        self.assertEqual(unmet_demand(dealing, [[S], [R, Q], [[0, [3]], P]]), (P, S))
        self.assertEqual(unmet_demand(dealing, [[P, Q], [P, Q, R]]), (P, Q, R))

    def test_more_copies_leave_none_unmet(self):
        for number in range(60):
            dealing = plain.some_dealing(number, WIDTHS, SORTS, 3)
            demands = some_demands(number, all_kinds(WIDTHS, SORTS))
            if unmet_demand(dealing, demands) is None:
                self.assertIsNone(unmet_demand(dealing | plain.some_dealing(number + 1, WIDTHS, SORTS, 3), demands))


class Clusters(unittest.TestCase):
    def test_ordinary(self):
        self.assertEqual(clusters(FOUR, [[P, Q], [P, R]]), ((P, Q, R),))
        self.assertEqual(clusters(FOUR, [[S], [R, Q], [P]]), ((P,), (Q, R), (S,)))
        self.assertEqual(clusters(FOUR, [[S, P], [R, Q]]), ((P, S), (Q, R)))
        self.assertEqual(clusters(FOUR, ()), ())
        self.assertEqual(unchanged(self, clusters, FOUR, ((S,), (R, Q))), ((Q, R), (S,)))

    def test_against_a_plain_joining(self):
        for number in range(150):
            demands = some_demands(number, all_kinds((1, 2), Sorts((), 3)), 7, 3)
            groups = []
            for demand in demands:
                near = [group for group in groups if group & set(demand)]
                groups = [group for group in groups if group not in near] + [set(demand).union(*near)]
            self.assertEqual(clusters(everywhere((1, 2), Sorts((), 3), 1), demands),
                             tuple(sorted(tuple(sorted(group)) for group in groups)))

    def test_dealings_that_hold_no_kind_twice(self):
        kinds = (P, Q, R, S)
        for number in range(25):
            demands = some_demands(number, kinds, 3, 3)
            for hands in itertools.product((None, 0, 1), repeat=4):
                held = [(kind, (hand,)) for kind, hand in zip(kinds, hands) if hand is not None]
                dealing = Dealing((1,), Sorts((), 4), 2, held)
                whole = all(is_met(dealing, cluster) for cluster in clusters(dealing, demands))
                self.assertIs(unmet_demand(dealing, demands) is None, whole)

    def test_a_long_chain(self):
        kinds = all_kinds((3,), Sorts((), 6))
        self.assertEqual(clusters(MANY, list(zip(kinds, kinds[1:]))), (kinds,))


class Carries(unittest.TestCase):
    def check(self, dealing, demands, others, right):
        """Check what carries returns, if it is known whether it is None."""
        found = carries(dealing, demands, others)
        self.assertIs(found is None, right)
        if found is not None:
            self.assertIsInstance(found, Carry)
            self.assertEqual((found.dealing.widths, found.dealing.hands), (dealing.widths, dealing.hands))
            self.assertTrue(found.dealing.sorts == dealing.sorts)
            self.assertTrue(all(is_met(found.dealing, demand) for demand in demands))
            self.assertIn(found.demand, check_demands(dealing, others))
            self.assertFalse(is_met(found.dealing, found.demand))

    def test_against_all_dealings(self):
        for hands, kinds in ((1, (P, Q, R, S)), (2, (P, Q, R)), (2, (P, Q, R, S)), (3, (P, Q, R))):
            dealings = list(all_within(everywhere((1,), Sorts((), len(kinds)), hands)))
            seen = []
            for number in range(40):
                demands = some_demands(number, kinds, 5, 3)
                others = some_demands(number + 500, kinds, 2, 3)
                meeting = [one for one in dealings if all(is_met(one, demand) for demand in demands)]
                right = all(is_met(one, other) for one in meeting for other in others)
                self.check(dealings[number % len(dealings)], demands, others, right)
                seen.append(right)
            self.assertEqual(set(seen), {True, False})

    def test_ordinary(self):
        self.check(FOUR, [[P, Q], [Q, R], [P, R]], [[P, Q, R]], True)
        self.check(everywhere((1,), Sorts((), 4), 3), [[P, Q], [Q, R], [P, R]], [[P, Q, R]], False)
        self.check(FOUR, list(itertools.combinations((P, Q, R, S), 2)), [[P, Q, R, S]], True)
        self.check(FOUR, [[P, Q], [Q, R], [R, S], [S, P]], [[P, Q, R, S]], False)
        self.check(FOUR, (), (), True)
        self.check(FOUR, (), [[P]], False)
        self.check(FOUR, [[P]], [[Q]], False)
        self.check(FOUR, [[P, Q]], [[P], [Q], [P, Q]], True)
        self.check(Dealing((1,), Sorts((), 4), 1, ()), [[P], [Q]], [[P, Q]], True)

    def test_against_all_layings(self):
        kinds = all_kinds((1, 1), Sorts((), 4))
        for number in range(60):
            hands = 2 + number % 3
            demands = some_demands(number, kinds, 5, 5)
            others = some_demands(number + 100, kinds, 3, 5)
            right = True
            for laid in itertools.product(range(hands), repeat=len(demands)):
                held = [set().union(*[demand for demand, hand in zip(demands, laid) if hand == one])
                        for one in range(hands)]
                right = right and all(any(set(other) <= one for one in held) for other in others)
            self.check(everywhere((1, 1), Sorts((), 4), hands), demands, others, right)

    def test_exactly_4096_ways_and_just_more(self):
        kinds = all_kinds((3,), Sorts((), 6))
        for hands, many in ((2, 12), (4, 6), (8, 4)):
            dealing = Dealing((3,), Sorts((), 6), hands, ())
            self.check(dealing, [[kind] for kind in kinds[:many]], [kinds[:2]], False)
            more = [[kind] for kind in kinds[:many + 1]]
            self.assertEqual(fault(TooMany, carries, dealing, more, ()), (4096,))
            # Only tidy demands count.
            self.check(dealing, more + [kinds[:2], kinds[1:3]], [[kinds[0]]], True)
        one = Dealing((3,), Sorts((), 6), 1, ())
        self.check(one, [[kind] for kind in kinds], [kinds[:60]], True)
        self.check(one, [[kind] for kind in kinds[1:]], [kinds[:60]], False)
        self.check(one, list(itertools.combinations(kinds, 2))[:6000], [kinds[:30], kinds[30:60]], True)

    def test_many_others(self):
        kinds = all_kinds((3,), Sorts((), 6))
        demands = [[kind for place, kind in enumerate(kinds[:60]) if place % 12 != at and place // 5 != at]
                   for at in range(12)]
        triples = list(itertools.combinations(kinds[:60], 3))[:6000]
        # A kind is lacking in two demands at the most, so two kinds are lacking in no more than four.
        self.check(MANY, demands, triples, True)
        self.check(MANY, demands[:3], triples, False)

    def test_errors_in_their_order(self):
        kinds = all_kinds((3,), Sorts((), 6))
        many = [[kind] for kind in kinds[:13]]
        self.assertEqual(fault(BadDemands, carries, MANY, [[P]], None), (0, "kind"))
        self.assertEqual(fault(BadDemands, carries, MANY, many, [kinds[:2], ()]), (1, "demand"))
        self.assertEqual(fault(BadDemands, carries, MANY, None, None), (0, "many"))
        self.assertEqual(fault(TooMany, carries, MANY, many, ()), (4096,))
        self.assertEqual(unchanged(self, carries, MANY, ((kinds[0], kinds[1]),), ((kinds[0],),)), None)

    def test_what_the_dealing_holds_means_nothing(self):
        empty = Dealing((1,), Sorts((), 4), 2, ())
        for function, *rest in ((check_demands, [[P, Q]]), (clusters, [[P, Q]]), (carries, [[P]], [[P, Q]])):
            self.assertEqual(function(empty, *rest), function(FOUR, *rest))

    def test_carry_is_a_result(self):
        dealing, demand = [object()], [object()]
        self.assertIs(Carry(dealing, demand).dealing, dealing)
        self.assertIs(Carry(dealing, demand).demand, demand)
        self.assertTrue(Carry(FOUR, (P,)) == Carry(everywhere((1,), Sorts((), 4), 2), (P,)))
        for other in (Carry(FOUR, (Q,)), Carry(FULL, (P,)), None, (FOUR, (P,))):
            self.assertTrue(Carry(FOUR, (P,)) != other)
            self.assertFalse(Carry(FOUR, (P,)) == other)
