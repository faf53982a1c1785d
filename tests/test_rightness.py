"""[5.1] to [5.8], and of [5.14] what they speak of: rightness for all stores and what shows it."""
import itertools
import random
import unittest

from meetwhere.asking import answer_of, rows_of
from meetwhere.cases import all_cases, layings
from meetwhere.dealings import Dealing, all_kinds, dealing_by, everywhere
from meetwhere.dealt import answers_together
from meetwhere.errors import BadQuestion, BadStore, BadUnion, TooMany
from meetwhere.leastness import is_least, least_cases
from meetwhere.questions import union_values
from meetwhere.rightness import (Meets, Parted, all_right, is_right, meeting_hands, meets_fault, parted_fault,
                                 right_for_all, rows_apart)
from meetwhere.sorts import Sorts
from tests import plain
from tests.plain import GREATEST, NO_SEQUENCES, fault, unchanged

WIDTHS = (1, 2)
PATH = (("a", "c"), ((0, ("a", "b")), (0, ("b", "c"))), ())
BY_REMAINDERS = dealing_by((2,), Sorts((), 2), 2, lambda kind: sorted(set(kind[1])))
EIGHT = ((), tuple((0, (letter,)) for letter in plain.NAMES), ())
NONE = ((), ((0, ("a",)),), (("a", "a"),))


def settings(many, most_value=1, hands=(1, 2, 3)):
    """Yield unions and dealings made up by number, some of which hold much and some little."""
    for number in range(many):
        sorts = plain.some_sorts(number, most_value + 1, 1, 2)
        likely = (0.5, 0.8, 0.95)[number % 3]
        yield (plain.some_union(number, WIDTHS, most_value),
               plain.some_dealing(number, WIDTHS, sorts, hands[number % len(hands)], likely))


def plain_least(union, dealing):
    """Return the least cases of a union with their rows, by going through all cases and all readings on their rows."""
    found = []
    for index, question in enumerate(union):
        for case in all_cases(question, dealing.sorts, union_values(union)):
            rows = plain.rows_of(question, dict(zip(plain.names_of(question), case)))
            answer = answer_of(question, case)
            parts = (part for many in range(len(rows)) for part in itertools.combinations(rows, many))
            if not any(answer in plain.answers(union, part) for part in parts):
                found.append((index, case, rows))
    return found


class Meeting(unittest.TestCase):
    def test_hands_that_hold_all_rows(self):
        for number in range(120):
            dealing = plain.some_dealing(number, WIDTHS, plain.some_sorts(number, 3), 1 + number % 8, 0.8)
            store = plain.some_store(number, WIDTHS, 4, 4)
            self.assertEqual(unchanged(self, meeting_hands, dealing, store), plain.lot_of_rows(dealing, store))

    def test_the_empty_store_and_a_full_one(self):
        full = tuple((0, (v, w)) for v in range(6) for w in range(10))
        for hands in range(1, 9):
            dealing = everywhere((2,), Sorts((), 1), hands)
            self.assertEqual(meeting_hands(dealing, ()), tuple(range(hands)))
            self.assertEqual(meeting_hands(dealing, full), tuple(range(hands)))
            self.assertEqual(meeting_hands(dealing.without((0,)), [full[1], full[0], full[1]]), tuple(range(1, hands)))

    def test_errors(self):
        for thing in NO_SEQUENCES:
            self.assertEqual(fault(BadStore, meeting_hands, BY_REMAINDERS, thing), (0, "many"))
        self.assertEqual(fault(BadStore, meeting_hands, BY_REMAINDERS, [(0, (1, 1)), (0, (True, 1))]), (1, "value"))


class Right(unittest.TestCase):
    def test_example(self):
        found = right_for_all((PATH,), BY_REMAINDERS)
        self.assertIsInstance(found, Meets)
        self.assertEqual(len(found.rows), 22)
        self.assertIs(is_right((PATH,), BY_REMAINDERS), True)

    def test_against_a_plain_going_through_cases(self):
        seen = []
        for union, dealing in settings(240):
            least = [(index, case, rows, plain.lot_of_rows(dealing, rows))
                     for index, case, rows in plain_least(union, dealing)]
            parted = [one for one in least if not one[3]]
            found = unchanged(self, right_for_all, union, dealing)
            self.assertIs(is_right(union, dealing), not parted)
            if parted:
                index, case, rows, _ = parted[0]
                self.assertTrue(found == Parted(index, case, rows, answer_of(union[index], case)))
                self.assertNotIn(found.answer, answers_together(union, dealing, found.store))
                self.assertIn(found.answer, plain.answers(union, found.store))
                self.assertIsNone(parted_fault(union, dealing, found))
            else:
                self.assertTrue(found == Meets(tuple((index, case, lot[0]) for index, case, _, lot in least)))
                self.assertIsNone(meets_fault(union, dealing, found))
            seen.append(not parted)
        self.assertGreater(seen.count(True), 50)
        self.assertGreater(seen.count(False), 50)

    def test_against_all_small_stores(self):
        for number, (union, dealing) in enumerate(settings(30)):
            right = is_right(union, dealing)
            # Values up to 3 tell all sorts; bodies of at most three atoms have no more rows.
            for store in plain.all_stores((1, 2), (0, 1, 2), 2 if number % 3 else 3):
                if right:
                    self.assertEqual(plain.together(union, dealing, store), plain.answers(union, store))

    def test_no_least_case(self):
        nowhere = Dealing(WIDTHS, Sorts((), 2), 2, ())
        for union in ((), (NONE,), (NONE, NONE)):
            self.assertIs(is_right(union, nowhere), True)
            self.assertTrue(right_for_all(union, nowhere) == Meets(()))
            self.assertEqual(rows_apart(union, nowhere), ())
            self.assertIsNone(meets_fault(union, nowhere, Meets(())))

    def test_no_names(self):
        one = (((), ((0, (5,)),), ()),)
        dealing = Dealing((1,), Sorts((), 2), 3, [((0, (1,)), (1, 2))])
        self.assertTrue(right_for_all(one, dealing) == Meets(((0, (), 1),)))
        self.assertTrue(right_for_all(one, dealing.without((1, 2))) == Parted(0, (), ((0, (5,)),), ()))

    def test_a_union_may_be_right_although_a_question_is_not(self):
        both, one = (("a",), ((0, ("a",)), (1, ("a",))), ()), (("a",), ((0, ("a",)),), ())
        dealing = Dealing((1, 1), Sorts((), 1), 2, [((0, (0,)), (0,)), ((1, (0,)), (1,))])
        self.assertIs(is_right((both,), dealing), False)
        self.assertIs(is_right((both, one), dealing), True)
        self.assertTrue(right_for_all((both, one), dealing) == Meets(((1, (0,), 0),)))

    def test_of_questions_that_are_right_and_of_dealings_that_include(self):
        for number, (union, dealing) in enumerate(settings(150)):
            if all(is_right((question,), dealing) for question in union):
                self.assertTrue(is_right(union, dealing))
            wider = dealing | plain.some_dealing(number + 900, WIDTHS, dealing.sorts, dealing.hands)
            if is_right(union, dealing):
                self.assertTrue(is_right(union, wider))

    def test_limits(self):
        sorts = Sorts(tuple(range(8)), 6)
        dealing = everywhere((1,) * 6, sorts, 8)
        union = tuple((("a", "b"), ((table, ("a",)), (table, ("b",))), ()) for table in range(6))
        self.assertEqual(len(right_for_all(union, dealing).rows), 6 * (14 * 14 + 6))
        seven = (("a",), EIGHT[1][:7], ())
        self.assertEqual(right_for_all((seven,), everywhere((1,), Sorts((), 1), 8)).rows, ((0, (0,) * 7, 0),))
        named = (((), ((0, ("a",)),), ((GREATEST, 3),)),)
        self.assertEqual(len(right_for_all(named, everywhere((1,), sorts, 1)).rows), 15)

    def test_a_thousand_layings_and_just_more(self):
        # With four fixed values four names have 799 layings, with five 1,540.
        four = ((), tuple((0, (letter,)) for letter in "abcd"), ())
        for named, right in (((1, 2, 3, 4), True), ((1, 2, 3, 4, 5), False)):
            dealing = everywhere((1,), Sorts(named, 1), 2)
            other = dealing.without((0, 1))
            if right:
                self.assertIs(is_right((four,), dealing), True)
                continue
            for made in (dealing, other):
                for function in (is_right, right_for_all, rows_apart):
                    self.assertEqual(fault(TooMany, function, (four,), made), (1000,))
                    # The first question alone is not right under the second dealing.
                    self.assertEqual(fault(TooMany, function, (((), ((0, (1,)),), ()), four), made), (1000,))

    def test_as_near_to_a_thousand_as_unions_come(self):
        # No union has a question with exactly 1,000 layings: two names have 967 with 25 fixed values, 1,030 with 26.
        two = ((), ((0, ("a",)), (0, ("b",))), ())
        self.assertEqual([layings(2, known, 6) for known in (25, 26)], [967, 1030])
        dealing = everywhere((1, 3), Sorts((0,), 6), 2)
        for many, right in ((24, True), (25, False)):
            told = tuple((1, tuple(range(at + 1, min(at + 4, many + 1)))) for at in range(0, 24, 3))
            told = ((), told, ((25, 25),) if many == 25 else ())
            if right:
                self.assertIs(is_right((two, told), dealing), True)
                self.assertEqual(len(right_for_all((two, told), dealing).rows), 32)
            else:
                self.assertEqual(fault(TooMany, is_right, (two, told), dealing), (1000,))
        seven = ((), EIGHT[1][:7], ())
        self.assertIs(is_right((seven,), everywhere((1,), Sorts((), 1), 2)), True)
        self.assertEqual(fault(TooMany, is_right, (EIGHT,), everywhere((1,), Sorts((), 1), 2)), (1000,))
        never = EIGHT[:2] + ((("a", "a"),),)
        self.assertEqual(fault(TooMany, is_right, (never,), everywhere((1,), Sorts((), 1), 2)), (1000,))

    def test_errors(self):
        for function in (is_right, right_for_all, rows_apart):
            self.assertEqual(fault(BadUnion, function, None, BY_REMAINDERS), ("many", 0))
            self.assertEqual(fault(BadQuestion, function, (PATH, EIGHT), BY_REMAINDERS), ("width", 0))
            self.assertEqual(fault(BadUnion, function, (PATH, ((), PATH[1], ())), BY_REMAINDERS), ("heads", 1))
            self.assertEqual(fault(BadQuestion, function, ((("a", True), PATH[1], ()),), BY_REMAINDERS), ("head", 1))
            one = everywhere((1,), Sorts((), 1), 1)
            self.assertEqual(fault(BadQuestion, function, (EIGHT, None), one), ("form", 0))
            self.assertEqual(fault(BadUnion, function, (EIGHT, ((1,), EIGHT[1][:1], ())), one), ("heads", 1))
            self.assertEqual(fault(TooMany, function, (EIGHT, ((), EIGHT[1][:1], ())), one), (1000,))


class MeetsJudged(unittest.TestCase):
    def rows(self):
        return right_for_all((PATH,), BY_REMAINDERS).rows

    def judge(self, *rows):
        return meets_fault((PATH,), BY_REMAINDERS, Meets(tuple(rows)))

    def test_any_order_and_rows_twice_and_each_hand(self):
        rows = list(self.rows())
        random.Random(1).shuffle(rows)
        self.assertIsNone(self.judge(*rows, *rows[:5]))
        self.assertIsNone(self.judge(*[(index, case, case[1] % 2) for index, case, _ in rows]))
        both = everywhere((2,), Sorts((), 2), 3)
        for hand in range(3):
            self.assertIsNone(meets_fault((PATH,), both, Meets([(0, case, hand) for _, case, _ in rows])))

    def test_case(self):
        rows = self.rows()
        for row in ((1, (0, 0, 0), 0), (-1, (0, 0, 0), 0), (0, (2, 2, 2), 0), (0, (0, 0), 0), (0, (0, 0, 0, 0), 0),
                    (0, (0, 3, 0), 0), (0, [0, 0, 0], 0), (True, (0, 0, 0), 0), (False, (0, 0, 0), 0),
                    (0, (False, 0, 0), 0), (0, (), 0)):
            self.assertEqual(self.judge(row), "case")
            self.assertEqual(self.judge(*rows, row), "case")
            self.assertEqual(self.judge((0, (0, 0, 0), 1), row), "hand")
        self.assertEqual(meets_fault((), BY_REMAINDERS, Meets(((0, (), 0),))), "case")
        unlike = (PATH[0], PATH[1], (("a", "b"),))
        self.assertEqual(meets_fault((unlike,), BY_REMAINDERS, Meets(((0, (0, 0, 0), 0),))), "case")

    def test_least(self):
        question = (("a",), ((0, ("a", "b")), (0, ("a", "c"))), ())
        dealing = everywhere((2,), Sorts((), 1), 2)
        self.assertIsNone(meets_fault((question,), dealing, Meets(((0, (0, 0, 0), 1), (0, (0, 1, 1), 0)))))
        for case in ((0, 0, 1), (0, 1, 0), (0, 1, 2)):
            for hand in (0, 7):
                self.assertEqual(meets_fault((question,), dealing, Meets(((0, case, hand),))), "least")

    def test_hand(self):
        rows = self.rows()
        for hand in (2, -1, 8, True, False):
            self.assertEqual(self.judge((0, (0, 0, 0), hand)), "hand")
        self.assertEqual(self.judge((0, (0, 0, 0), 1), *rows), "hand")
        self.assertEqual(self.judge(*rows, (0, (0, 1, 0), 1), (0, (0, 0, 0), 1)), "hand")

    def test_lacking(self):
        rows = self.rows()
        for at in range(len(rows)):
            self.assertEqual(self.judge(*rows[:at], *rows[at + 1:], *rows[:at]), "lacking")
        self.assertEqual(self.judge(), "lacking")
        self.assertEqual(meets_fault((PATH,), BY_REMAINDERS, Meets([])), "lacking")

    def test_against_a_plain_judge(self):
        words = set()
        for number, (union, dealing) in enumerate(settings(120)):
            made = random.Random(number)
            least = {(index, case): plain.lot_of_rows(dealing, rows)
                     for index, case, rows in plain_least(union, dealing)}
            cases = [(index, case) for index, question in enumerate(union)
                     for case in all_cases(question, dealing.sorts, union_values(union))]
            rows = [key + (made.choice(lot),) for key, lot in least.items() if lot and made.random() < 0.98]
            for _ in range(made.choice((0, 0, 1))):
                if cases:
                    rows.append(made.choice(cases) + (made.randrange(3),))
            made.shuffle(rows)
            right = None
            for row in rows:
                word = None if row[:2] in least else "least"
                word = word if word or row[2] in least[row[:2]] else "hand"
                right = right or word
            if right is None and {row[:2] for row in rows} != set(least):
                right = "lacking"
            self.assertEqual(meets_fault(union, dealing, Meets(tuple(rows))), right)
            words.add(right)
        self.assertEqual(words, {None, "least", "hand", "lacking"})

    def test_errors(self):
        self.assertEqual(fault(BadUnion, meets_fault, None, BY_REMAINDERS, Meets(())), ("many", 0))
        self.assertEqual(fault(BadQuestion, meets_fault, (None,), BY_REMAINDERS, Meets(())), ("form", 0))
        dealing = everywhere((1,), Sorts((), 1), 1)
        self.assertEqual(fault(TooMany, meets_fault, (EIGHT,), dealing, Meets(((7, (), 0),))), (1000,))


class PartedJudged(unittest.TestCase):
    ONE = Dealing((2,), Sorts((), 2), 2, [((0, (v, w)), (v,)) for v in range(2) for w in range(2)])
    FOUND = right_for_all((PATH,), ONE)

    def judge(self, **told):
        parted = Parted(*[told.get(name, value) for name, value in vars(self.FOUND).items()])
        return parted_fault((PATH,), self.ONE, parted)

    def test_found(self):
        self.assertEqual(vars(self.FOUND), {"index": 0, "reading": (0, 1, 0), "store": ((0, (0, 1)), (0, (1, 0))),
                                            "answer": (0, 0)})
        self.assertIsNone(self.judge())

    def test_any_values(self):
        store = ((0, (4, 7)), (0, (7, GREATEST)))
        self.assertIsNone(self.judge(reading=(4, 7, GREATEST), store=store, answer=(4, GREATEST)))

    def test_reading(self):
        for index in (1, -1, 6, True, False, None, "0", 0.0):
            self.assertEqual(self.judge(index=index), "reading")
        for reading in ((), (0, 1), (0, 1, 0, 0), (0, True, 0), (0, -1, 0), (0, GREATEST + 1, 0), (0, "a", 0)):
            self.assertEqual(self.judge(reading=reading), "reading")
        unlike = (PATH[0], PATH[1], (("a", "c"),))
        self.assertEqual(parted_fault((unlike,), self.ONE, self.FOUND), "reading")
        self.assertEqual(parted_fault((), self.ONE, Parted(0, (), (), ())), "reading")

    def test_store(self):
        right = self.FOUND.store
        for store in (right[::-1], right[:1], right + right[1:], (), right + ((0, (2, 2)),), ((0, (0, True)), right[1]),
                      ((False, (0, 1)), right[1]), ((0, (0, 1)), (0, (1, 1)))):
            self.assertEqual(self.judge(store=store, answer=None), "store")

    def test_answer(self):
        for answer in ((0,), (0, 1), (0, 0, 0), (), (0, False), (False, 0)):
            self.assertEqual(self.judge(answer=answer), "answer")

    def test_least(self):
        question = (("a",), ((0, ("a", "b")), (0, ("a", "c"))), ())
        parted = Parted(0, (0, 0, 1), ((0, (0, 0)), (0, (0, 1))), (0,))
        for dealing in (everywhere((2,), Sorts((), 1), 2), everywhere((2,), Sorts((), 1), 2).without((0, 1))):
            self.assertEqual(parted_fault((question,), dealing, parted), "least")

    def test_meets(self):
        self.assertEqual(self.judge(reading=(0, 0, 1), store=((0, (0, 0)), (0, (0, 1))), answer=(0, 1)), "meets")
        self.assertEqual(parted_fault((PATH,), BY_REMAINDERS, self.FOUND), "meets")

    def test_against_a_plain_judge(self):
        for number, (union, dealing) in enumerate(settings(60)):
            for index, question in enumerate(union):
                for given in plain.readings_over(question, (0, 1, 5)):
                    reading, rows = tuple(given.values()), plain.rows_of(question, given)
                    right = None if is_least(union, index, reading) else "least"
                    right = right or ("meets" if plain.lot_of_rows(dealing, rows) else None)
                    parted = Parted(index, reading, rows, plain.filled(question[0], given))
                    self.assertEqual(parted_fault(union, dealing, parted), right)

    def test_no_bound_and_the_errors_of_the_union(self):
        eight = ((), tuple((0, pair) for pair in zip("abcdefgh", "bcdefgha")), ())
        dealing = everywhere((2,), Sorts((), 1), 1).without((0,))
        store = tuple((0, (k, (k + 1) % 8)) for k in range(8))
        self.assertIsNone(parted_fault((eight,), dealing, Parted(0, tuple(range(8)), store, ())))
        self.assertEqual(fault(BadUnion, parted_fault, None, dealing, None), ("many", 0))
        self.assertEqual(fault(BadQuestion, parted_fault, (EIGHT,), dealing, None), ("width", 0))


class Results(unittest.TestCase):
    def test_they_keep_the_very_things_and_check_nothing(self):
        things = [[object()] for _ in range(4)]
        self.assertIs(Meets(things).rows, things)
        parted = Parted(*things)
        self.assertTrue(all(kept is thing for kept, thing in zip(vars(parted).values(), things)))
        self.assertEqual(list(vars(parted)), ["index", "reading", "store", "answer"])

    def test_equal(self):
        self.assertTrue(Meets(((0, (1,), 2),)) == Meets(((0, (1,), 2),)))
        self.assertTrue(Meets(()) != Meets(((0, (1,), 2),)))
        self.assertTrue(Meets(()) != ())
        one = Parted(0, (1,), ((0, (1,)),), (1,))
        self.assertTrue(one == Parted(0, (1,), ((0, (1,)),), (1,)))
        self.assertFalse(one != Parted(0, (1,), ((0, (1,)),), (1,)))
        for other in (Parted(1, (1,), ((0, (1,)),), (1,)), Parted(0, (2,), ((0, (1,)),), (1,)),
                      Parted(0, (1,), (), (1,)), Parted(0, (1,), ((0, (1,)),), ()), Meets(()), None):
            self.assertTrue(one != other)


class Many(unittest.TestCase):
    def test_the_first_that_is_not_right(self):
        dealing = PartedJudged.ONE
        one = (((), ((0, ("a", "b")),), ()),)
        for unions, right in (((), None), ([], None), ((one,), None), ((one, ()), None), (((PATH,),), 0),
                              ([one, (PATH,), (PATH,)], 1), ([list(one)] * 20 + [[PATH]], 20)):
            self.assertEqual(all_right(unions, dealing), right)
        self.assertEqual(unchanged(self, all_right, (one, (PATH,)), dealing), 1)

    def test_against_each_alone(self):
        dealing = plain.some_dealing(5, WIDTHS, Sorts((), 2), 2, 0.8)
        for number in range(40):
            unions = [plain.some_union(number * 7 + k, WIDTHS, 1) for k in range(5)]
            wrong = [index for index, union in enumerate(unions) if not is_right(union, dealing)]
            self.assertEqual(all_right(unions, dealing), wrong[0] if wrong else None)

    def test_errors_come_ahead_but_too_many_in_its_turn(self):
        dealing = Dealing((1,), Sorts((), 1), 1, ())
        full = everywhere((1,), Sorts((), 1), 1)
        wrong = (((), ((0, ("a",)),), ()),)
        self.assertEqual(fault(BadUnion, all_right, (wrong, (EIGHT,), None), dealing), ("many", 0))
        self.assertEqual(fault(BadQuestion, all_right, (wrong, (EIGHT,), (None,)), dealing), ("form", 0))
        self.assertEqual(all_right((wrong, (EIGHT,)), dealing), 0)
        self.assertEqual(fault(TooMany, all_right, (wrong, (EIGHT,)), full), (1000,))
        self.assertEqual(fault(TooMany, all_right, ((EIGHT,), wrong), dealing), (1000,))


class RowsApart(unittest.TestCase):
    def test_against_a_plain_going_through_cases(self):
        for union, dealing in settings(150):
            couples = set()
            for _, _, rows in plain_least(union, dealing):
                kinds = [plain.kind_of(dealing.sorts, row) for row in rows]
                for first, second in itertools.product(kinds, repeat=2):
                    if first <= second and not set(dealing.lot_of(first)) & set(dealing.lot_of(second)):
                        couples.add((first, second))
            found = unchanged(self, rows_apart, union, dealing)
            self.assertEqual(found, tuple(sorted(couples)))
            if is_right(union, dealing):
                self.assertEqual(found, ())
            if dealing.hands <= 2 or all(len(body) <= 2 for _, body, _ in union):
                self.assertIs(is_right(union, dealing), found == ())

    def test_a_kind_that_lies_nowhere(self):
        one = (((), ((0, ("a", "b")),), (("a", "b"),)),)
        dealing = Dealing((2,), Sorts((), 2), 2, [((0, (0, 0)), (0,)), ((0, (0, 1)), (1,)), ((0, (1, 1)), (0,))])
        kind = (0, (1, 0))
        self.assertEqual(rows_apart(one, dealing), ((kind, kind),))
        self.assertEqual(rows_apart((PATH,), PartedJudged.ONE)[0], ((0, (0, 0)), (0, (1, 0))))

    def test_three_that_meet_two_by_two(self):
        three = (((), ((0, ("a",)), (1, ("a",)), (2, ("a",))), ()),)
        dealing = Dealing((1, 1, 1), Sorts((), 1), 3, [((0, (0,)), (0, 1)), ((1, (0,)), (0, 2)), ((2, (0,)), (1, 2))])
        self.assertEqual(rows_apart(three, dealing), ())
        self.assertIs(is_right(three, dealing), False)

    def test_all_kinds_of_a_union_that_asks_all(self):
        union = (((), ((0, ("a", "b")),), ()),)
        sorts = Sorts((1,), 2)
        self.assertEqual(rows_apart(union, Dealing((2,), sorts, 8, ())),
                         tuple((kind, kind) for kind in all_kinds((2,), sorts)))


class RowsHangOnKinds(unittest.TestCase):
    def test_what_meets_for_a_case_meets_for_alike_readings(self):
        for union, dealing in settings(40):
            for index, case in least_cases(union, dealing.sorts, union_values(union)):
                rows = rows_of(union[index], case)
                fixed = set(union_values(union)) | set(dealing.sorts.named)
                moved = tuple((table, tuple(value if value in fixed else value + 6 * 10 ** 6 for value in values))
                              for table, values in rows)
                self.assertEqual(meeting_hands(dealing, rows), meeting_hands(dealing, moved))
