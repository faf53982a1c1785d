"""[4.1] to [4.5]: kinds, dealings, and dealings made from others."""
import itertools
import unittest

from meetwhere.dealings import (Dealing, all_kinds, check_kind, check_lost, count_kinds, dealing_by, everywhere,
                                renumbered)
from meetwhere.errors import Apart, BadDealing, BadLost, BadOrder, BadRow, BadWidths, NoHand, NoKind
from meetwhere.sorts import Sorts
from tests import plain
from tests.plain import NO_SEQUENCES, fault, in_tuples, unchanged

WIDTHS = (1, 2)
SORTS = Sorts((), 2)
RULE = (((0, (0,)), (0,)), ((1, (0, 1)), (0, 2)), ((1, (1, 1)), (1,)))
DEALING = Dealing(WIDTHS, SORTS, 3, RULE)
NO_KINDS = (None, 0, "ab", "", b"ab", (), [], (0,), [0, [0], 0], (True, (0,)), (False, (0,)), (0, (True,)),
            (0, (False,)), [1, [0, True]], (0, (2,)), (0, (-1,)), (2, (0,)), (-1, (0,)), (0, (0, 0)), (0, ()),
            (1, (0,)), (0, 0), (0, "0"), {0: (0,)}, {0}, (0, {0}), (0.0, (0,)), (0, (0.0,)), ("0", (0,)), (0, None),
            [0, [None]], (0, ((0,),)), object(), range(2), (0, range(1)), 1j)
NO_LOTS = NO_SEQUENCES + ((0, 0), (3,), (-1,), (True,), (False,), (0, True), (1.0,), ("0",), (None,), [0, 1, 2, 0],
                          [[0]], ((),), (0, 1, 2, 3))


class Kinds(unittest.TestCase):
    def test_all_kinds(self):
        self.assertEqual(all_kinds((1,), Sorts((5,), 1)), ((0, (0,)), (0, (1,))))
        self.assertEqual(all_kinds((1, 2), SORTS), ((0, (0,)), (0, (1,)), (1, (0, 0)), (1, (0, 1)), (1, (1, 0)),
                                                    (1, (1, 1))))
        for widths, sorts in itertools.product(((1,), (3,), (2, 1), [1, 2, 3], (1,) * 6), (Sorts((), 1), SORTS,
                                                                                       Sorts((3, 7), 3))):
            self.assertEqual(all_kinds(widths, sorts), plain.all_kinds(widths, sorts))
            self.assertEqual(count_kinds(widths, sorts), len(plain.all_kinds(widths, sorts)))
        self.assertTrue(plain.is_deep_tuple(unchanged(self, all_kinds, (2, 1), SORTS)))

    def test_the_most_kinds(self):
        sorts = Sorts(tuple(range(8)), 6)
        self.assertEqual(count_kinds((3,) * 6, sorts), 6 * 14 ** 3)
        self.assertEqual(len(all_kinds((3,) * 6, sorts)), 6 * 14 ** 3)

    def test_widths(self):
        for function in (all_kinds, count_kinds):
            self.assertEqual(fault(BadWidths, function, (1, 4), SORTS), (1,))
            self.assertEqual(fault(BadWidths, function, (), SORTS), (0,))
            self.assertEqual(fault(BadWidths, function, (True,), SORTS), (0,))


class Made(unittest.TestCase):
    def test_attributes(self):
        self.assertEqual((DEALING.widths, DEALING.hands, DEALING.rule), (WIDTHS, 3, RULE))
        self.assertIs(DEALING.sorts, SORTS)

    def test_the_rule_is_put_in_order_without_empty_lots(self):
        rule = [[[1, [1, 1]], [1]], ((1, [0, 1]), [2, 0]), ([1, (0, 0)], []), [(0, (0,)), (0,)], ((1, (1, 0)), ())]
        self.assertEqual(Dealing(list(WIDTHS), SORTS, 3, rule).rule, RULE)
        for order in itertools.permutations(rule):
            self.assertTrue(Dealing(WIDTHS, SORTS, 3, order) == DEALING)
        self.assertEqual(Dealing(WIDTHS, SORTS, 1, ()).rule, ())
        for lot in itertools.permutations(range(8)[:4]):
            self.assertEqual(Dealing((1,), SORTS, 8, [((0, (1,)), list(lot))]).rule, (((0, (1,)), (0, 1, 2, 3)),))

    def test_nothing_is_changed_or_kept(self):
        rule = plain.in_lists(RULE)
        widths = list(WIDTHS)
        dealing = Dealing(widths, SORTS, 3, rule)
        self.assertEqual((widths, rule), (list(WIDTHS), plain.in_lists(RULE)))
        plain.wreck(rule)
        widths.clear()
        self.assertEqual((dealing.widths, dealing.rule), (WIDTHS, RULE))
        self.assertEqual([dealing.lot_of(kind) for kind, _ in RULE], [lot for _, lot in RULE])
        self.assertTrue(plain.is_deep_tuple((dealing.widths, dealing.rule)))

    def test_errors_in_their_order(self):
        self.assertEqual(fault(BadWidths, Dealing, (1, 0), None, 0, None), (1,))
        for thing in (None, 2, ((), 2), "x", [SORTS]):
            self.assertEqual(fault(BadDealing, Dealing, WIDTHS, thing, 0, None), ("sorts", 0))
        for thing in (0, 9, -1, True, False, 2.0, "2", None, (2,)):
            self.assertEqual(fault(BadDealing, Dealing, WIDTHS, SORTS, thing, None), ("hands", 0))
        for thing in NO_SEQUENCES:
            self.assertEqual(fault(BadDealing, Dealing, WIDTHS, SORTS, 2, thing), ("rule", 0))

    def test_couples_of_the_rule(self):
        right = ((0, (1,)), (0,))
        for thing in (None, 5, "ab", (), ((0, (0,)),), ((0, (0,)), (0,), (0,)), {1: 2, 3: 4}):
            self.assertEqual(fault(BadDealing, Dealing, WIDTHS, SORTS, 3, [right, thing]), ("kind", 1))
        for kind in NO_KINDS + ((0, (1,)), [0, [1]]):
            self.assertEqual(fault(BadDealing, Dealing, WIDTHS, SORTS, 3, [right, (kind, None)]), ("kind", 1))
        for lot in NO_LOTS:
            self.assertEqual(fault(BadDealing, Dealing, WIDTHS, SORTS, 3, (right, [(0, (0,)), lot], None)), ("lot", 1))
        self.assertEqual(fault(BadDealing, Dealing, WIDTHS, SORTS, 3, [(right[0], ()), right]), ("kind", 1))
        self.assertEqual(fault(BadDealing, Dealing, (1,), SORTS, 1, [((0, (0,)), (1,))]), ("lot", 0))
        self.assertEqual(fault(BadDealing, Dealing, (1,), SORTS, 8, [((0, (0,)), (7, 8))]), ("lot", 0))
        self.assertEqual(Dealing((1,), SORTS, 8, [((0, (0,)), (7,))]).rule, (((0, (0,)), (7,)),))

    def test_equal(self):
        same = Dealing([1, 2], Sorts([], 2), 3, [list(couple) for couple in reversed(RULE)])
        self.assertTrue(DEALING == same)
        self.assertFalse(DEALING != same)
        others = (Dealing((1, 3), SORTS, 3, RULE[:1]), Dealing(WIDTHS, Sorts((), 3), 3, RULE),
                  Dealing(WIDTHS, SORTS, 4, RULE), Dealing(WIDTHS, SORTS, 3, RULE[1:]), SORTS, RULE, None, 3)
        for other in others:
            self.assertFalse(DEALING == other)
            self.assertTrue(DEALING != other)
        self.assertFalse(Dealing(WIDTHS, SORTS, 3, RULE[:1]) == Dealing((1, 3), SORTS, 3, RULE[:1]))
        self.assertFalse(Dealing((1,), SORTS, 3, ()) == Dealing((1, 1), SORTS, 3, ()))


class Asked(unittest.TestCase):
    def test_lots_of_rows(self):
        sorts = Sorts((2, 5), 3)
        dealing = plain.some_dealing(1, (1, 2), sorts, 4)
        lots = dict(dealing.rule)
        for row in [(0, (v,)) for v in range(12)] + [(1, (v, w)) for v in range(7) for w in range(7)]:
            self.assertEqual(dealing(row), lots.get(plain.kind_of(sorts, row), ()))
            self.assertEqual(dealing(plain.in_lists(row)), dealing(row))

    def test_no_rows(self):
        for row, what in ((None, "row"), ((0,), "row"), ((True, (1,)), "row"), ((2, (1,)), "table"),
                          ((0, (1, 2)), "width"), ((0, (True,)), "value"), ((0, (-1,)), "value")):
            self.assertEqual(fault(BadRow, DEALING.__call__, row), (what,))

    def test_lots_of_kinds(self):
        lots = dict(RULE)
        for kind in plain.all_kinds(WIDTHS, SORTS):
            self.assertEqual(DEALING.lot_of(kind), lots.get(kind, ()))
            self.assertEqual(DEALING.lot_of(plain.in_lists(kind)), lots.get(kind, ()))
            self.assertEqual(check_kind(DEALING, plain.in_lists(kind)), kind)
            self.assertEqual(unchanged(self, check_kind, DEALING, kind), kind)
            self.assertIs(kind in DEALING, kind in lots)
            self.assertIs(plain.in_lists(kind) in DEALING, kind in lots)

    def test_things_that_are_no_kinds(self):
        full = everywhere(WIDTHS, SORTS, 2)
        for thing in NO_KINDS:
            self.assertIs(thing in full, False)
            self.assertEqual(fault(NoKind, check_kind, full, thing), (in_tuples(thing),))
            self.assertEqual(fault(NoKind, full.lot_of, thing), (in_tuples(thing),))

    def test_held(self):
        self.assertEqual([DEALING.held(hand) for hand in range(3)],
                         [((0, (0,)), (1, (0, 1))), ((1, (1, 1)),), ((1, (0, 1)),)])
        for thing in (3, -1, True, False, None, "0", 0.0, (0,)):
            self.assertEqual(fault(NoHand, DEALING.held, thing), (thing,))

    def test_going_through_the_kinds(self):
        self.assertEqual(list(DEALING), [kind for kind, _ in RULE])
        self.assertEqual([kind for kind in Dealing(WIDTHS, SORTS, 1, [((0, (0,)), ())])], [])
        self.assertEqual(list(everywhere(WIDTHS, SORTS, 8)), list(all_kinds(WIDTHS, SORTS)))


class ByAFunction(unittest.TestCase):
    def test_each_kind_is_asked_once_in_order(self):
        asked = []

        def choose(kind):
            asked.append(kind)
            return [len(asked) % 3]

        dealing = dealing_by(WIDTHS, SORTS, 3, choose)
        self.assertEqual(asked, list(all_kinds(WIDTHS, SORTS)))
        self.assertEqual(dealing.rule, tuple((kind, ((at + 1) % 3,)) for at, kind in enumerate(asked)))

    def test_a_list_that_changes_later(self):
        lot = []

        def choose(kind):
            lot.clear()
            lot.extend(sorted(set(kind[1]), reverse=True))
            return lot

        dealing = dealing_by((2,), SORTS, 2, choose)
        lot.append(7)
        self.assertEqual(dealing.rule, (((0, (0, 0)), (0,)), ((0, (0, 1)), (0, 1)), ((0, (1, 0)), (0, 1)),
                                        ((0, (1, 1)), (1,))))

    def test_no_lots(self):
        kinds = all_kinds(WIDTHS, SORTS)
        for lot in NO_LOTS:
            for at in (0, 3, 5):
                self.assertEqual(fault(BadDealing, dealing_by, WIDTHS, SORTS, 3,
                                       lambda kind: lot if kinds.index(kind) >= at else ()), ("lot", at))
        self.assertEqual(dealing_by(WIDTHS, SORTS, 3, lambda kind: ()), Dealing(WIDTHS, SORTS, 3, ()))

    def test_errors_ahead_of_the_first_call(self):
        def choose(kind):
            raise AssertionError

        self.assertEqual(fault(BadWidths, dealing_by, None, None, 0, choose), (0,))
        self.assertEqual(fault(BadDealing, dealing_by, WIDTHS, None, 0, choose), ("sorts", 0))
        self.assertEqual(fault(BadDealing, dealing_by, WIDTHS, SORTS, 9, choose), ("hands", 0))
        self.assertEqual(fault(BadDealing, dealing_by, WIDTHS, SORTS, True, choose), ("hands", 0))

    def test_an_error_of_the_function(self):
        class Own(Exception):
            pass

        for error in (Own, ValueError, KeyError, BadRow, TypeError):
            def choose(kind):
                if kind == (1, (0, 0)):
                    raise error("x")
                return (0,)

            with self.assertRaises(error):
                dealing_by(WIDTHS, SORTS, 2, choose)

    def test_everywhere(self):
        for hands in range(1, 9):
            dealing = everywhere(WIDTHS, SORTS, hands)
            self.assertEqual(dealing.rule, tuple((kind, tuple(range(hands))) for kind in all_kinds(WIDTHS, SORTS)))
        self.assertEqual(fault(BadWidths, everywhere, (), None, 0), (0,))
        self.assertEqual(fault(BadDealing, everywhere, WIDTHS, None, 0), ("sorts", 0))
        for thing in (0, 9, True, None, "2"):
            self.assertEqual(fault(BadDealing, everywhere, WIDTHS, SORTS, thing), ("hands", 0))


class FromOthers(unittest.TestCase):
    def test_with_lot(self):
        for kind in all_kinds(WIDTHS, SORTS):
            for lot in ((), (2,), [2, 0], (1, 0, 2)):
                dealing = DEALING.with_lot(plain.in_lists(kind), lot)
                for other in all_kinds(WIDTHS, SORTS):
                    right = tuple(sorted(lot)) if other == kind else DEALING.lot_of(other)
                    self.assertEqual(dealing.lot_of(other), right)
        self.assertEqual(DEALING.rule, RULE)
        for kind in NO_KINDS:
            self.assertEqual(fault(NoKind, DEALING.with_lot, kind, None), (in_tuples(kind),))
        for lot in NO_LOTS:
            self.assertEqual(fault(BadDealing, DEALING.with_lot, (0, (0,)), lot), ("lot", 0))

    def test_without(self):
        for many in range(4):
            for lost in itertools.permutations(range(3), many):
                dealing = DEALING.without(list(lost))
                self.assertEqual(dealing.hands, 3)
                self.assertEqual(check_lost(DEALING, list(lost)), tuple(sorted(lost)))
                for hand in range(3):
                    self.assertEqual(dealing.held(hand), () if hand in lost else DEALING.held(hand))
        self.assertTrue(DEALING.without(()) == DEALING)
        self.assertEqual(DEALING.without((2, 1, 0)).rule, ())
        self.assertEqual(unchanged(self, check_lost, DEALING, (2, 0)), (0, 2))

    def test_lost_hands_that_are_none(self):
        for function in (DEALING.without, lambda lost: check_lost(DEALING, lost)):
            for thing in NO_SEQUENCES:
                self.assertEqual(fault(BadLost, function, thing), (0,))
            for lost, index in (((3,), 0), ((0, 0), 1), ([1, 2, -1, 5], 2), ((True,), 0), ((0, True), 1), ((1, 1.0), 1),
                                ((0, 1, 2, 0), 3), ((None,), 0), (([0],), 0), ((2, "1"), 1), ((0, False), 1)):
                self.assertEqual(fault(BadLost, function, lost), (index,))

    def test_renumbered(self):
        for order in itertools.permutations(range(3)):
            dealing = renumbered(DEALING, list(order))
            for hand in range(3):
                self.assertEqual(dealing.held(order[hand]), DEALING.held(hand))
        self.assertEqual(renumbered(DEALING, (1, 2, 0)).rule,
                         (((0, (0,)), (1,)), ((1, (0, 1)), (0, 1)), ((1, (1, 1)), (2,))))
        self.assertEqual(unchanged(self, renumbered, DEALING, (2, 1, 0)).rule[0], ((0, (0,)), (2,)))
        for order in NO_SEQUENCES + ((), (0, 1), (0, 1, 1), (0, 1, 3), (0, 1, 2, 2), (0, 1, 2, 3), (0, True, 2),
                                     [0, 1, None], (False, 1, 2), (0, 1.0, 2), [[0], 1, 2]):
            self.assertEqual(fault(BadOrder, renumbered, DEALING, order), (in_tuples(order),))


class Two(unittest.TestCase):
    def couples(self):
        for number in range(60):
            sorts = plain.some_sorts(number, 4)
            hands = (1, 2, 3, 8)[number % 4]
            one = plain.some_dealing(number, WIDTHS, sorts, hands, 0.6)
            other = plain.some_dealing(number + 1000, WIDTHS, sorts, hands, 0.3)
            yield one, other
            yield one | other, other
            yield one, one & other

    def test_joined_and_shared(self):
        for one, other in self.couples():
            before = (one.rule, other.rule)
            either, both = one | other, one & other
            for kind in plain.all_kinds(one.widths, one.sorts):
                first, second = set(one.lot_of(kind)), set(other.lot_of(kind))
                self.assertEqual(either.lot_of(kind), tuple(sorted(first | second)))
                self.assertEqual(both.lot_of(kind), tuple(sorted(first & second)))
            self.assertEqual((one.rule, other.rule), before)

    def test_includes(self):
        seen = set()
        for one, other in self.couples():
            right = all(set(other.lot_of(kind)) <= set(one.lot_of(kind)) for kind in other)
            self.assertIs(one.includes(other), right)
            self.assertIs(one | other == one, right)
            self.assertIs(one & other == other, right)
            self.assertTrue(one.includes(one) and (one | other).includes(other) and other.includes(one & other))
            seen.add(right)
        self.assertEqual(seen, {True, False})

    def test_apart(self):
        one = Dealing((1,), SORTS, 2, ())
        for other, what in ((Dealing((2,), Sorts((), 3), 3, ()), "widths"), (Dealing((1, 1), SORTS, 2, ()), "widths"),
                            (Dealing((1,), Sorts((), 3), 3, ()), "sorts"), (Dealing((1,), SORTS, 3, ()), "hands")):
            self.assertEqual(fault(Apart, one.__or__, other), (what,))
            self.assertEqual(fault(Apart, one.__and__, other), (what,))
            self.assertEqual(fault(Apart, one.includes, other), (what,))
