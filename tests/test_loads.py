"""[9.5], [9.6], and of [9.7] what it tells of them: loads of hands, and the shares that spread a store best."""
import itertools
import unittest

from meetwhere.dealings import Dealing, everywhere
from meetwhere.errors import BadMost, BadQuestion, BadStore, BadWidths
from meetwhere.grids import coordinates_of, grid_dealing, hand_of
from meetwhere.loads import all_shares, best_shares, count_copies, greatest_load, loads_of, most_copies
from meetwhere.refining import finer, with_named
from meetwhere.sorts import Sorts
from tests import plain
from tests.plain import NO_SEQUENCES, fault, unchanged
from tests.test_grids import PATH, TWO, WIDTHS, all_right_shares, some_settings


class Loads(unittest.TestCase):
    def test_row_by_row(self):
        for number in range(150):
            sorts, hands = plain.some_sorts(number, 3), 1 + number % 8
            dealing = plain.some_dealing(number, WIDTHS, sorts, hands, (0.1, 0.5, 0.9)[number % 3])
            store = plain.some_store(number, WIDTHS, 5, 12)
            loads = tuple(len(plain.at_hand(dealing, store, hand)) for hand in range(hands))
            self.assertEqual(unchanged(self, loads_of, dealing, store), loads)
            self.assertEqual(unchanged(self, greatest_load, dealing, store), max(loads))
            self.assertEqual(unchanged(self, count_copies, dealing, store), sum(loads))
            self.assertEqual(most_copies(dealing), max([len(lot) for _, lot in dealing.rule], default=0))
            self.assertLessEqual(sum(loads), most_copies(dealing) * len(store))

    def test_a_single_row_reaches_the_most_copies(self):
        for number in range(60):
            sorts = plain.some_sorts(number, 3)
            dealing = plain.some_dealing(number, WIDTHS, sorts, 5, 0.3)
            values = [sorts.value_of(sort, 0) for sort in range(sorts.many)]
            copies = [count_copies(dealing, (row,)) for row in plain.rows_with(WIDTHS, values)]
            self.assertEqual(max(copies), most_copies(dealing))

    def test_edges(self):
        full, none = everywhere((1,), TWO, 8), Dealing((1,), TWO, 3, ())
        store = tuple((0, (value,)) for value in range(60))
        self.assertEqual((loads_of(full, store), greatest_load(full, store), count_copies(full, store)),
                         ((60,) * 8, 60, 480))
        self.assertEqual((most_copies(full), most_copies(none)), (8, 0))
        self.assertEqual((loads_of(none, store), greatest_load(none, store), count_copies(none, store)),
                         ((0, 0, 0), 0, 0))
        self.assertEqual((loads_of(full, ()), greatest_load(full, []), count_copies(full, ())), ((0,) * 8, 0, 0))
        self.assertEqual(loads_of(full, [[0, [1]], (0, (1,))]), (1,) * 8)

    def test_errors(self):
        full = everywhere((1,), TWO, 2)
        for function in (loads_of, greatest_load, count_copies):
            for thing in NO_SEQUENCES + ([(0, (1,))] * 61,):
                self.assertEqual(fault(BadStore, function, full, thing), (0, "many"))
            self.assertEqual(fault(BadStore, function, full, [(0, (1,)), (0, (False,))]), (1, "value"))


class FinerGrids(unittest.TestCase):
    def test_shares_that_are_multiples(self):
        seen = 0
        for number, (question, sorts, _) in enumerate(some_settings(60)):
            found = all_right_shares(question, sorts)
            for one, other in itertools.islice(itertools.product(found, found), 60):
                if any(share % less for share, less in zip(one, other)):
                    continue
                first, second = (grid_dealing(WIDTHS, question, sorts, shares) for shares in (one, other))
                for hand in range(first.hands):
                    place = tuple(at % less for at, less in zip(coordinates_of(one, hand), other))
                    self.assertLessEqual(set(first.held(hand)), set(second.held(hand_of(other, place))))
                store = plain.some_store(number, WIDTHS, 9, 20)
                self.assertLessEqual(greatest_load(first, store), greatest_load(second, store))
                seen += one != other
        self.assertGreater(seen, 150)

    def test_finer_sorts(self):
        seen = 0
        for number, (question, sorts, shares) in enumerate(some_settings(120)):
            grid = grid_dealing(WIDTHS, question, sorts, shares)
            free = [value for value in range(6) if value not in sorts.named]
            further = [(Sorts(sorted(sorts.named + (value,)), sorts.modulus), with_named(grid, value))
                       for value in free]
            further += [(Sorts(sorts.named, sorts.modulus * factor), finer(grid, factor))
                        for factor in (2, 3, 6) if sorts.modulus * factor <= 6]
            valued = any(not isinstance(term, str) for _, terms in question[1] for term in terms)
            for others, before in further:
                after = grid_dealing(WIDTHS, question, others, shares)
                self.assertTrue(before.includes(after))
                if not valued:
                    self.assertTrue(before == after)
                seen += before != after
                store = plain.some_store(number, WIDTHS, 9, 20)
                self.assertLessEqual(greatest_load(after, store), greatest_load(grid, store))
        self.assertGreater(seen, 20)


class AllShares(unittest.TestCase):
    def test_example(self):
        self.assertEqual(all_shares(PATH, TWO, 2), ((1, 1, 1), (1, 1, 2), (1, 2, 1), (2, 1, 1)))

    def test_against_going_through_all(self):
        for question, sorts, _ in some_settings(60):
            for most in range(1, 9):
                right = tuple(all_right_shares(question, sorts, most))
                self.assertEqual(all_shares(question, sorts, most), right)
        self.assertEqual(unchanged(self, lambda question: all_shares(question, TWO, 8), PATH)[-1], (2, 2, 2))

    def test_bounds_of_most(self):
        for most in (0, 9, -1, True, False, None, "2", 2.0, (2,)):
            self.assertEqual(fault(BadMost, all_shares, PATH, TWO, most), (most,))
            self.assertEqual(fault(BadMost, best_shares, (2,), PATH, TWO, most, None), (most,))
        self.assertEqual(all_shares(PATH, TWO, 1), ((1, 1, 1),))
        self.assertEqual(len(all_shares(PATH, TWO, 8)), 8)
        self.assertEqual(all_shares(((), ((0, (1,)),), ()), Sorts((), 6), 1), ((),))
        self.assertEqual(all_shares(((), ((0, (1,)),), ()), Sorts((), 6), 8), ((),))
        self.assertEqual(all_shares(((), ((0, ("a",)),), ()), Sorts((), 5), 4), ((1,),))
        self.assertEqual(all_shares(((), ((0, ("a",)),), ()), Sorts((), 6), 5), ((1,), (2,), (3,)))


class BestShares(unittest.TestCase):
    def test_against_a_plain_trying_of_all(self):
        seen = set()
        for number, (question, sorts, _) in enumerate(some_settings(120)):
            store = plain.some_store(number, WIDTHS, (1, 5, 9)[number % 3], 12)
            most = 1 + number % 8
            shares = all_right_shares(question, sorts, most)
            loads = [max(len(plain.at_hand(grid, store, hand)) for hand in range(grid.hands))
                     for grid in [grid_dealing(WIDTHS, question, sorts, one) for one in shares]]
            right = shares[loads.index(min(loads))]
            self.assertEqual(best_shares(WIDTHS, question, sorts, most, store), right)
            found = unchanged(self, lambda *args: best_shares(args[0], args[1], sorts, most, args[2]),
                              WIDTHS, question, store)
            self.assertEqual(found, right)
            seen.add(right)
        self.assertGreater(len(seen), 15)

    def test_the_first_of_several_and_the_empty_store(self):
        self.assertEqual(best_shares((2,), PATH, TWO, 8, ()), (1, 1, 1))
        self.assertEqual(best_shares((2,), PATH, TWO, 8, ((0, (1, 1)),)), (1, 1, 1))
        store = tuple((0, (v, w)) for v in range(4) for w in range(4))
        loads = {shares: greatest_load(grid_dealing((2,), PATH, TWO, shares), store)
                 for shares in all_shares(PATH, TWO, 8)}
        self.assertEqual(best_shares((2,), PATH, TWO, 8, store), min(loads, key=lambda shares: (loads[shares], shares)))
        self.assertEqual(best_shares((2,), PATH, TWO, 1, store), (1, 1, 1))

    def test_errors_in_their_order(self):
        self.assertEqual(fault(BadWidths, best_shares, (), None, TWO, 0, None), (0,))
        self.assertEqual(fault(BadQuestion, best_shares, (2,), None, TWO, 0, None), ("form", 0))
        self.assertEqual(fault(BadMost, best_shares, (2,), PATH, TWO, 0, None), (0,))
        for thing in NO_SEQUENCES:
            self.assertEqual(fault(BadStore, best_shares, (2,), PATH, TWO, 8, thing), (0, "many"))
        self.assertEqual(fault(BadStore, best_shares, (2,), PATH, TWO, 1, ((0, (1,)),)), (0, "width"))
