"""[9.1] to [9.4], and of [9.7] what it tells of them: shares, coordinates, grids."""
import itertools
import unittest

from meetwhere.dealings import Dealing, all_kinds
from meetwhere.dealt import answers_together, counted_together
from meetwhere.errors import BadQuestion, BadShares, BadWidths
from meetwhere.grids import check_shares, coordinates_of, fits_atom, grid_dealing, hand_of, hand_of_reading
from meetwhere.rightness import is_right, meeting_hands
from meetwhere.counts import counts_right
from meetwhere.sorts import Sorts
from tests import plain
from tests.plain import NO_SEQUENCES, fault, unchanged

WIDTHS = (1, 2)
PATH = (("a", "c"), ((0, ("a", "b")), (0, ("b", "c"))), ())
TWO = Sorts((), 2)


def all_right_shares(question, sorts, most=8):
    """Return all shares of a question with a product at most so great, ascending."""
    found = []
    for shares in itertools.product(range(1, 7), repeat=len(plain.names_of(question))):
        product = 1
        for share in shares:
            product *= share
        if product <= most and all(sorts.modulus % share == 0 for share in shares):
            found.append(shares)
    return found


def some_settings(many, most_names=3):
    """Yield questions, sorts and some of their shares, made up by number."""
    for number in range(many):
        question = plain.some_question(number, WIDTHS, 3, 3, most_names)
        sorts = plain.some_sorts(number, 4, 2, 6)
        shares = all_right_shares(question, sorts)
        yield question, sorts, shares[number * 7 % len(shares)]


def coordinate(sorts, share, sort):
    """Return the coordinate that the values of a sort have."""
    return sorts.value_of(sort, 0) % share


def plain_lot(question, sorts, shares, kind):
    """Return the lot of a kind in a grid: the hands of which some atom tells nothing else."""
    names = plain.names_of(question)
    lot = []
    for hand, place in enumerate(itertools.product(*[range(share) for share in shares])):
        given = dict(zip(names, zip(shares, place)))
        for table, terms in question[1]:
            if table == kind[0] and all(
                    coordinate(sorts, given[term][0], sort) == given[term][1] if term in given
                    else sorts.sort_of(term) == sort for term, sort in zip(terms, kind[1])):
                lot.append(hand)
                break
    return tuple(lot)


class Shares(unittest.TestCase):
    def test_right_ones(self):
        for question, sorts, _ in some_settings(60):
            for shares in all_right_shares(question, sorts):
                self.assertEqual(unchanged(self, check_shares, question, sorts, shares), shares)
        self.assertEqual(check_shares(PATH, Sorts((), 6), [1, 6, 1]), (1, 6, 1))
        self.assertEqual(check_shares(((), ((0, (4,)),), ()), Sorts((), 6), []), ())
        eight = ((), tuple((0, (name,)) for name in plain.NAMES), ())
        self.assertEqual(check_shares(eight, Sorts((), 4), (1, 2, 1, 1, 4, 1, 1, 1)), (1, 2, 1, 1, 4, 1, 1, 1))

    def test_wrong_ones(self):
        six = Sorts((0, 1, 2), 6)
        for thing in NO_SEQUENCES + ((), (1, 1), (1, 1, 1, 1), [1, 1], (7,), (0, 0)):
            self.assertEqual(fault(BadShares, check_shares, PATH, six, thing), (0, "many"))
        self.assertEqual(fault(BadShares, check_shares, ((), ((0, (4,)),), ()), six, (1,)), (0, "many"))
        for share in (0, -1, 4, 5, 7, 12, True, False, None, "1", 1.0, (1,), [2]):
            for at in range(3):
                shares = [1, 6, 6]
                shares[at] = share
                shares[at + 1:] = [9] * (2 - at)
                self.assertEqual(fault(BadShares, check_shares, PATH, six, shares), (at, "share"))
        self.assertEqual(fault(BadShares, check_shares, PATH, six, (3, 1, 3)), (0, "product"))
        self.assertEqual(fault(BadShares, check_shares, PATH, six, (2, 6, 1)), (0, "product"))
        self.assertEqual(fault(BadShares, check_shares, PATH, Sorts((), 4), (4, 4, 1)), (0, "product"))
        self.assertEqual(check_shares(PATH, Sorts((), 4), (4, 2, 1)), (4, 2, 1))
        self.assertEqual(check_shares(PATH, TWO, (2, 2, 2)), (2, 2, 2))


class Coordinates(unittest.TestCase):
    def test_back_and_forth(self):
        for shares in itertools.product(range(1, 5), repeat=3):
            places = list(itertools.product(*[range(share) for share in shares]))
            for hand, place in enumerate(places):
                self.assertEqual(hand_of(shares, place), hand)
                self.assertEqual(coordinates_of(shares, hand), place)
                self.assertEqual(hand_of(list(shares), list(place)), hand)
                self.assertEqual(coordinates_of(list(shares), hand), place)

    def test_the_first_name_counts_most(self):
        self.assertEqual(hand_of((2, 3), (1, 0)), 3)
        self.assertEqual(hand_of((2, 3), (0, 2)), 2)
        self.assertEqual(coordinates_of((2, 3), 5), (1, 2))

    def test_without_names(self):
        self.assertEqual(hand_of((), ()), 0)
        self.assertEqual(coordinates_of((), 0), ())


class Fits(unittest.TestCase):
    def test_against_the_three_rules(self):
        seen = []
        for question, sorts, shares in some_settings(150):
            share_of = dict(zip(plain.names_of(question), shares))
            for kind in all_kinds(WIDTHS, sorts):
                for index, (table, terms) in enumerate(question[1]):
                    there = list(zip(terms, kind[1]))
                    right = (table == kind[0]
                             and all(sorts.sort_of(term) == sort for term, sort in there if term not in share_of)
                             and all(coordinate(sorts, share_of[one], first) == coordinate(sorts, share_of[one], second)
                                     for one, first in there for two, second in there
                                     if one == two and one in share_of))
                    found = fits_atom(question, sorts, shares, index, kind)
                    self.assertIs(found, right)
                    seen.append(right)
        self.assertGreater(seen.count(True), 500)
        self.assertGreater(seen.count(False), 500)

    def test_edges(self):
        twice = ((), ((0, ("a", "a")),), ())
        self.assertIs(fits_atom(twice, Sorts((), 4), (2,), 0, (0, (1, 3))), True)
        self.assertIs(fits_atom(twice, Sorts((), 4), (4,), 0, (0, (1, 3))), False)
        # A named value has the coordinate of its own remainder.
        self.assertIs(fits_atom(twice, Sorts((5,), 2), (2,), 0, (0, (0, 2))), True)
        self.assertIs(fits_atom(twice, Sorts((5,), 2), (2,), 0, (0, (0, 1))), False)
        self.assertIs(fits_atom(((), ((0, (5,)),), ()), Sorts((5,), 1), (), 0, (0, (0,))), True)
        self.assertIs(fits_atom(((), ((0, (5,)),), ()), Sorts((5,), 1), (), 0, (0, (1,))), False)
        self.assertIs(fits_atom(((), ((1, (5,)),), ()), Sorts((), 1), (), 0, (0, (0,))), False)


class Grids(unittest.TestCase):
    def test_example(self):
        grid = grid_dealing((2,), PATH, TWO, (1, 2, 1))
        self.assertTrue(grid == Dealing((2,), TWO, 2, [((0, (0, 0)), (0,)), ((0, (0, 1)), (0, 1)),
                                                       ((0, (1, 0)), (1, 0)), ((0, (1, 1)), [1])]))
        self.assertEqual(hand_of_reading(PATH, TWO, (1, 2, 1), (0, 1, 0)), 1)

    def test_against_plain_lots(self):
        for question, sorts, shares in some_settings(200):
            grid = grid_dealing(list(WIDTHS), plain.in_lists(question), sorts, list(shares))
            hands = len(list(itertools.product(*[range(share) for share in shares])))
            rule = [(kind, plain_lot(question, sorts, shares, kind)) for kind in plain.all_kinds(WIDTHS, sorts)]
            self.assertTrue(grid == Dealing(WIDTHS, sorts, hands, rule))

    def test_the_hand_of_a_reading_holds_all_its_rows(self):
        for number, (question, sorts, shares) in enumerate(some_settings(100)):
            grid = grid_dealing(WIDTHS, question, sorts, shares)
            single = len({table for table, _ in question[1]}) == len(question[1])
            for given in plain.readings_over(question, (0, 1, 2, 3, 5 + number)):
                reading = tuple(given.values())
                hand = hand_of_reading(question, sorts, shares, reading)
                place = tuple(value % share for value, share in zip(reading, shares))
                self.assertEqual(coordinates_of(shares, hand), place)
                lot = meeting_hands(grid, plain.rows_of(question, given))
                self.assertIn(hand, lot)
                if single:
                    self.assertEqual(lot, (hand,))

    def test_right_on_drawn_stores_and_for_all(self):
        counted = []
        for number, (question, sorts, shares) in enumerate(some_settings(120)):
            grid = grid_dealing(WIDTHS, question, sorts, shares)
            self.assertTrue(is_right((question,), grid))
            for k in range(6):
                store = plain.some_store(6 * number + k, WIDTHS, 7, 8)
                self.assertEqual(answers_together((question,), grid, store), plain.answers((question,), store))
            if len({table for table, _ in question[1]}) == len(question[1]):
                self.assertIsNone(counts_right(question, grid))
                self.assertEqual(counted_together(question, grid, store), plain.counted(question, store))
            else:
                counted.append(counts_right(question, grid) is None)
        self.assertIn(True, counted)
        self.assertIn(False, counted)

    def test_lots_of_tables_that_stand_in_one_atom(self):
        for question, sorts, shares in some_settings(150):
            grid = grid_dealing(WIDTHS, question, sorts, shares)
            names = plain.names_of(question)
            for index, (table, terms) in enumerate(question[1]):
                if [other for other, _ in question[1]].count(table) > 1:
                    continue
                free = 1
                for name, share in zip(names, shares):
                    free *= 1 if name in terms else share
                for kind in all_kinds(WIDTHS, sorts):
                    if kind[0] == table:
                        fits = fits_atom(question, sorts, shares, index, kind)
                        self.assertEqual(len(grid.lot_of(kind)), free if fits else 0)

    def test_kinds_that_fit_no_atom_go_nowhere(self):
        question = (("a",), ((1, ("a", 3)),), ())
        grid = grid_dealing((1, 2), question, Sorts((3,), 2), (2,))
        self.assertEqual(grid.lot_of((0, (0,))), ())
        self.assertEqual(grid.rule, (((1, (0, 0)), (1,)), ((1, (1, 0)), (0,)), ((1, (2, 0)), (1,))))

    def test_pairs_mean_nothing(self):
        for pairs in ((("a", "b"),), (("a", "a"),), (("a", 0), (1, 2))):
            grid = grid_dealing((2,), PATH[:2] + (pairs,), TWO, (2, 2, 1))
            self.assertTrue(grid == grid_dealing((2,), PATH, TWO, (2, 2, 1)))

    def test_without_names_with_values_alone_and_names_twice(self):
        grid = grid_dealing((1,), ((), ((0, (4,)),), ()), TWO, ())
        self.assertTrue(grid == Dealing((1,), TWO, 1, [((0, (0,)), (0,))]))
        self.assertEqual(hand_of_reading(((), ((0, (4,)),), ()), TWO, (), ()), 0)
        grid = grid_dealing((2,), ((), ((0, ("a", "a")),), ()), TWO, (2,))
        self.assertEqual(grid.rule, (((0, (0, 0)), (0,)), ((0, (1, 1)), (1,))))
        grid = grid_dealing((2,), ((), ((0, ("a", "a")),), ()), TWO, (1,))
        self.assertEqual([lot for _, lot in grid.rule], [(0,)] * 4)

    def test_products(self):
        question = (("a", "b", "c"), ((0, ("a", "b")), (0, ("b", "c"))), ())
        grid = grid_dealing((2,), question, Sorts((), 4), (4, 1, 2))
        self.assertEqual((grid.hands, grid.lot_of((0, (1, 1)))), (8, (1, 2, 3, 5, 7)))
        self.assertEqual(grid_dealing((2,), question, Sorts((), 6), (1, 1, 1)).hands, 1)
        self.assertEqual(fault(BadShares, grid_dealing, (2,), question, Sorts((), 6), (3, 3, 1)), (0, "product"))

    def test_errors_in_their_order(self):
        self.assertEqual(fault(BadWidths, grid_dealing, (0,), None, TWO, None), (0,))
        self.assertEqual(fault(BadQuestion, grid_dealing, (2,), None, TWO, None), ("form", 0))
        self.assertEqual(fault(BadQuestion, grid_dealing, (1,), PATH, TWO, None), ("width", 0))
        self.assertEqual(fault(BadShares, grid_dealing, (2,), PATH, TWO, None), (0, "many"))
        self.assertEqual(fault(BadShares, grid_dealing, (2,), PATH, TWO, (1, 1, True)), (2, "share"))
        self.assertEqual(fault(BadShares, hand_of_reading, PATH, TWO, (1, 3, 0), None), (1, "share"))
        self.assertEqual(fault(BadShares, hand_of_reading, PATH, TWO, (1, 1), (0, 0, 0)), (0, "many"))
        self.assertEqual(fault(BadShares, hand_of_reading, PATH, Sorts((), 6), (2, 6, 1), (0, 0, 0)), (0, "product"))

    def test_nothing_is_changed_or_kept(self):
        question, shares = plain.in_lists(PATH), [1, 2, 1]
        grid = grid_dealing([2], question, TWO, shares)
        self.assertEqual((question, shares), (plain.in_lists(PATH), [1, 2, 1]))
        plain.wreck(question)
        shares.clear()
        self.assertTrue(grid == grid_dealing((2,), PATH, TWO, (1, 2, 1)))
        self.assertEqual(unchanged(self, lambda *args: hand_of_reading(args[0], TWO, *args[1:]), PATH, (1, 2, 1),
                                   (0, 1, 0)), 1)
