"""[5.12], [5.13], and of [5.14] what they speak of: lost hands."""
import itertools
import unittest

from meetwhere.dealings import Dealing, dealing_by, everywhere
from meetwhere.dealt import answers_after
from meetwhere.errors import BadQuestion, BadUnion, TooMany
from meetwhere.losses import losing_lots, most_lost
from meetwhere.rightness import is_right
from meetwhere.sorts import Sorts
from tests import plain
from tests.plain import fault, unchanged
from tests.test_rightness import plain_least

WIDTHS = (1, 2)
PATH = (("a", "c"), ((0, ("a", "b")), (0, ("b", "c"))), ())
ONE = ((), ((0, ("a", "b")),), ())
BY_REMAINDERS = dealing_by((2,), Sorts((), 2), 2, lambda kind: sorted(set(kind[1])))
EIGHT = ((), tuple((0, (letter,)) for letter in plain.NAMES), ())


def settings(many):
    """Yield unions and dealings made up by number that hold much."""
    for number in range(many):
        sorts = plain.some_sorts(number, 2, 1, 2)
        yield (plain.some_union(number, WIDTHS, 1),
               plain.some_dealing(number, WIDTHS, sorts, 1 + number % 4, (0.8, 0.9, 0.97)[number % 3]))


def is_right_without(least, dealing, lost):
    """Return whether the rows of each least case lie whole at a hand that is not lost."""
    return all(set(plain.lot_of_rows(dealing, rows)) - set(lost) for _, _, rows in least)


class Lost(unittest.TestCase):
    def test_example(self):
        self.assertEqual(most_lost((PATH,), BY_REMAINDERS), 0)
        self.assertEqual(losing_lots((PATH,), BY_REMAINDERS), ((0,), (1,)))

    def test_against_a_plain_going_through_all_lots(self):
        seen = set()
        for number, (union, dealing) in enumerate(settings(160)):
            least = plain_least(union, dealing)
            hands = range(dealing.hands)
            lots = [lost for many in range(dealing.hands + 1) for lost in itertools.combinations(hands, many)]
            fatal = [lost for lost in lots if not is_right_without(least, dealing, lost)]
            right = tuple(lost for lost in fatal if not any(set(part) < set(lost) for part in fatal))
            self.assertEqual(unchanged(self, losing_lots, union, dealing), right)
            found = unchanged(self, most_lost, union, dealing)
            seen.add(found)
            if not least:
                self.assertEqual((found, right), (None, ()))
            else:
                self.assertEqual(found, len(right[0]) - 1)
                fine = [f for f in range(dealing.hands + 1) if all(len(lost) != f for lost in fatal)]
                self.assertEqual(found, max([-1] + [f for f in fine if set(range(f)) <= set(fine)]))
            for lost in lots if number % 5 == 0 else ():
                self.assertIs(is_right(union, dealing.without(lost)), lost not in fatal)
        self.assertEqual(seen, {-1, None, 0, 1, 2, 3})

    def test_not_right_and_no_least_case(self):
        nowhere = Dealing((2,), Sorts((), 1), 3, ())
        self.assertEqual((most_lost((PATH,), nowhere), losing_lots((PATH,), nowhere)), (-1, ((),)))
        for union in ((), (ONE[:2] + ((("a", "a"),),),)):
            self.assertEqual((most_lost(union, nowhere), losing_lots(union, nowhere)), (None, ()))

    def test_one_hand_and_eight(self):
        for hands in range(1, 9):
            dealing = everywhere((2,), Sorts((3,), 2), hands)
            self.assertEqual(most_lost((PATH, PATH), dealing), hands - 1)
            self.assertEqual(losing_lots((PATH,), dealing), (tuple(range(hands)),))
            store = ((0, (1, 2)), (0, (2, 3)))
            self.assertEqual(answers_after((PATH,), dealing, store, list(range(1, hands))), ((1, 3),))

    def test_the_order_of_the_lots(self):
        dealing = Dealing((2,), Sorts((), 2), 4, [((0, (0, 0)), (1, 2)), ((0, (0, 1)), (3,)), ((0, (1, 0)), (0, 1, 2)),
                                                  ((0, (1, 1)), (0, 2))])
        self.assertEqual(losing_lots(((("a", "b"),) + ONE[1:],), dealing), ((3,), (0, 2), (1, 2)))
        self.assertEqual(most_lost(((("a", "b"),) + ONE[1:],), dealing), 0)

    def test_errors(self):
        dealing = everywhere((1,), Sorts((), 1), 1)
        for function in (most_lost, losing_lots):
            self.assertEqual(fault(BadUnion, function, None, dealing), ("many", 0))
            self.assertEqual(fault(BadQuestion, function, (PATH,), dealing), ("width", 0))
            self.assertEqual(fault(BadUnion, function, (EIGHT, (("a",),) + EIGHT[1:]), dealing), ("heads", 1))
            self.assertEqual(fault(TooMany, function, (EIGHT,), dealing), (1000,))
            self.assertEqual(fault(TooMany, function, (EIGHT,), dealing.without((0,))), (1000,))
