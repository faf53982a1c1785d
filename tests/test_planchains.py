"""[7.3]: chains that show why a plan gives an answer."""
import itertools
import random
import unittest

from meetwhere.asking import answer_of, rows_of
from meetwhere.dealings import dealing_by, everywhere
from meetwhere.errors import BadStore, NoAnswer
from meetwhere.planchains import chain_fault, chain_rows, chain_to
from meetwhere.plans import Plan, run_plan, with_round
from meetwhere.sorts import Sorts
from tests import plain
from tests.plain import NO_SEQUENCES, fault, in_tuples, unchanged
from tests.test_plans import ALL_TO_0, BY_REMAINDERS, LONGER, PATH, PLAN, SORTS, STORE, some_plans

FIRST = (0, 0, 0, (0, 1, 0))
LAST = (1, 0, 0, (0, 0, 1))


def plain_fault(plan, store, answer, chain):
    """Return the word for a chain of links in tuples, by the very words of [7.3]; None if there is none."""
    made = []
    for index, hand, number, reading in chain:
        dealing, union = plan.rounds[index]
        rows = rows_of(union[number], reading)
        if any(hand not in dealing(row) for row in rows):
            return "hand"
        if any(row not in store and row not in made for row in rows):
            return "rows"
        made.append((len(plan.widths) + index, answer_of(union[number], reading)))
    if not chain or chain[-1][0] != len(plan) - 1 or made[-1][1] != answer:
        return "answer"
    return None


class ChainTo(unittest.TestCase):
    def test_ordinary(self):
        chain = chain_to(PLAN, STORE, (0, 1))
        self.assertIsNone(chain_fault(PLAN, STORE, (0, 1), chain))
        self.assertEqual(chain[-1], LAST)
        self.assertEqual(chain_rows(PLAN, chain), STORE)

    def test_there_is_one_exactly_for_what_the_plan_answers(self):
        lengths = []
        for plan, store in some_plans(240):
            answered = run_plan(plan, store).answered
            head = len(plan.rounds[-1][1][0][0])
            for answer in itertools.product(range(4), repeat=head):
                if answer not in answered:
                    self.assertEqual(fault(NoAnswer, chain_to, plan, store, answer), (answer,))
                    continue
                chain = chain_to(plan, store, answer)
                self.assertIsNone(chain_fault(plan, store, answer, chain))
                self.assertIsNone(plain_fault(plan, store, answer, chain))
                self.assertTrue(plain.is_deep_tuple(chain))
                rows = chain_rows(plan, chain)
                self.assertLessEqual(set(rows), set(store))
                self.assertIn(answer, run_plan(plan, rows).answered)
                lengths.append(len(chain))
        self.assertLessEqual({1, 2, 3, 4}, set(lengths))
        self.assertGreater(len(lengths), 200)

    def test_all_values_of_a_reading_count(self):
        # Of several answers the chain has the one that is asked for, at a hand where the rows meet.
        store = tuple((0, (v, w)) for v in range(4) for w in range(4) if v != w)
        for answer in run_plan(PLAN, store).answered:
            chain = chain_to(PLAN, store, answer)
            self.assertIsNone(chain_fault(PLAN, store, answer, chain))
            self.assertIn(answer, run_plan(PLAN, chain_rows(PLAN, chain)).answered)

    def test_plans_of_one_round_and_of_three(self):
        one = Plan((2,), PLAN.rounds[:1])
        self.assertEqual(len(chain_to(one, STORE, (0, 0))), 1)
        self.assertIsNone(chain_fault(one, STORE, (0, 0), chain_to(one, STORE, (0, 0))))
        twice = (("a",), ((1, ("a", "b")), (2, ("a", "b")), (2, ("b", "a"))), ())
        three = Plan((2,), PLAN.rounds + ((everywhere((2, 2, 2), SORTS, 3), (twice,)),))
        store = STORE + ((0, (1, 1)),)
        for answer in run_plan(three, store).answered:
            chain = chain_to(three, store, answer)
            self.assertEqual(sorted({link[0] for link in chain}), [0, 1, 2])
            self.assertIsNone(chain_fault(three, store, answer, chain))

    def test_made_stores_of_more_than_sixty_rows(self):
        store = tuple((0, (k,)) for k in range(60))
        pairs = (("a", "b"), ((0, ("a",)), (0, ("b",))), ())
        ends = (("h",), tuple((1, pair) for pair in zip("abcdefgh", "bcdefgha")), tuple(zip("abcdefgh", "bcdefgha")))
        plan = Plan((1,), [(everywhere((1,), SORTS, 8), (pairs,)), (everywhere((1, 2), SORTS, 8), (ends,))])
        chain = chain_to(plan, store, (59,))
        self.assertIsNone(chain_fault(plan, store, (59,), chain))
        self.assertEqual(run_plan(plan, chain_rows(plan, chain)).answered[-1], (59,))

    def test_no_answer(self):
        for thing in ((5, 5), (0,), (), (0, 1, 0), (0, True), (False, 1), (0, 1.0), None, 5, "01", {0: 1}):
            self.assertEqual(fault(NoAnswer, chain_to, PLAN, STORE, thing), (thing,))
        self.assertEqual(fault(NoAnswer, chain_to, PLAN, STORE, [0, 1]), ((0, 1),))
        self.assertEqual(fault(NoAnswer, chain_to, PLAN, STORE, [[0], 1]), (((0,), 1),))
        self.assertEqual(fault(NoAnswer, chain_to, PLAN, (), (0, 1)), ((0, 1),))

    def test_stores_that_are_none(self):
        for thing in NO_SEQUENCES:
            self.assertEqual(fault(BadStore, chain_to, PLAN, thing, None), (0, "many"))
            self.assertEqual(fault(BadStore, chain_fault, PLAN, thing, None, None), (0, "many"))
        self.assertEqual(fault(BadStore, chain_to, PLAN, ((1, (0, 0)),), None), (0, "table"))
        self.assertEqual(fault(BadStore, chain_fault, PLAN, ((0, (0, True)),), (), ()), (0, "value"))

    def test_nothing_is_changed_or_kept(self):
        store = plain.in_lists(STORE)
        chain = chain_to(PLAN, store, (0, 1))
        kept = in_tuples(chain)
        plain.wreck(store)
        self.assertEqual(chain, kept)
        given = plain.in_lists(chain)
        self.assertIsNone(chain_fault(PLAN, STORE, (0, 1), given))
        self.assertEqual(given, plain.in_lists(kept))
        self.assertEqual(chain_rows(PLAN, plain.in_lists(chain)), STORE)


class ChainFault(unittest.TestCase):
    def judge(self, *chain, answer=(0, 1), store=STORE, plan=PLAN):
        return chain_fault(plan, store, answer, chain)

    def test_right_ones(self):
        self.assertIsNone(self.judge(FIRST, LAST))
        self.assertIsNone(chain_fault(PLAN, STORE, (0, 1), [list(FIRST), [1, 0, 0, [0, 0, 1]]]))
        # Links that nobody needs, and links twice.
        self.assertIsNone(self.judge((0, 1, 0, (1, 0, 1)), FIRST, FIRST, (1, 0, 0, (1, 1, 0)), LAST))
        self.assertIsNone(self.judge((0, 1, 0, (0, 1, 0)), LAST))

    def test_link(self):
        for thing in (None, 5, "abcd", (), FIRST[:3], FIRST + (0,), (2,) + FIRST[1:], (-1,) + FIRST[1:],
                      (True,) + LAST[1:], (False,) + FIRST[1:], (0, 2, 0, (0, 1, 0)), (0, True, 0, (0, 1, 0)),
                      (0, -1, 0, (0, 1, 0)), (0, 0, 1, (0, 1, 0)), (0, 0, False, (0, 1, 0)), (0, 0, -1, (0, 1, 0)),
                      (0, 0, 0, (0, 1)), (0, 0, 0, (0, 1, 0, 0)), (0, 0, 0, (0, True, 0)), (0, 0, 0, (0, -1, 0)),
                      (0, 0, 0, None), (0, 0, 0, "010"), (0, 0, 0, (0, 10 ** 9 + 1, 0)), {0: 0, 1: 0, 2: 0, 3: ()}):
            self.assertEqual(self.judge(thing), "link")
            self.assertEqual(self.judge(FIRST, thing, answer=None), "link")
            self.assertEqual(self.judge(FIRST, LAST, thing), "link")
        for chain in NO_SEQUENCES:
            self.assertEqual(chain_fault(PLAN, STORE, (0, 1), chain), "link")
        unlike = Plan((2,), [(BY_REMAINDERS, (PATH[:2] + ((("a", "c"),),),)), (ALL_TO_0, (LONGER,))])
        self.assertEqual(self.judge(FIRST, plan=unlike), "link")

    def test_hand(self):
        far = (0, 0, 0, (2, 4, 6))
        self.assertEqual(self.judge((0, 1, 0, (2, 4, 6))), "hand")
        self.assertEqual(self.judge((1, 1, 0, (0, 0, 1))), "hand")
        self.assertEqual(self.judge(FIRST, (1, 1, 0, (0, 0, 1)), None), "hand")
        self.assertEqual(self.judge(far), "rows")

    def test_rows(self):
        self.assertEqual(self.judge(LAST), "rows")
        self.assertEqual(self.judge(LAST, FIRST), "rows")
        self.assertEqual(self.judge(FIRST, LAST, store=STORE[:1]), "rows")
        self.assertEqual(self.judge(FIRST, (1, 0, 0, (1, 1, 0)), None), "rows")
        # A link's own fruit does not count: the second round's heads are as its first atom.
        own = Plan((2,), [PLAN.rounds[0], (ALL_TO_0, ((("a", "b"), ((1, ("a", "b")),), ()),))])
        self.assertEqual(self.judge((1, 0, 0, (0, 0)), plan=own, answer=(0, 0)), "rows")
        self.assertIsNone(self.judge(FIRST, (1, 0, 0, (0, 0)), plan=own, answer=(0, 0)))

    def test_answer(self):
        self.assertEqual(self.judge(), "answer")
        self.assertEqual(chain_fault(PLAN, STORE, (0, 1), []), "answer")
        self.assertEqual(self.judge(FIRST), "answer")
        self.assertEqual(self.judge(FIRST, answer=(0, 0)), "answer")
        self.assertEqual(self.judge(FIRST, LAST, FIRST), "answer")
        for answer in ((1, 0), (0,), (0, 1, 0), (), [0, 1], (0, True), (False, 1), (0, 1.0), None, "01", 1):
            self.assertEqual(self.judge(FIRST, LAST, answer=answer), "answer")

    def test_each_chain_that_is_changed(self):
        words = set()
        for number, (plan, store) in enumerate(some_plans(150)):
            for answer in run_plan(plan, store).answered[:2]:
                chain = chain_to(plan, store, answer)
                made = random.Random(number)
                for at in range(len(chain)):
                    index, hand, question, reading = chain[at]
                    hands = plan.rounds[index][0].hands
                    other = (index, made.randrange(hands), question, reading)
                    for changed in (chain[:at] + chain[at + 1:], chain[:at] + (other,) + chain[at + 1:],
                                    chain[at:] + chain[:at], chain + chain[at:at + 1]):
                        for told in (answer, tuple(value + 1 for value in answer)):
                            right = plain_fault(plan, store, told, changed)
                            self.assertEqual(chain_fault(plan, store, told, changed), right)
                            words.add(right)
        self.assertEqual(words, {None, "hand", "rows", "answer"})


class ChainRows(unittest.TestCase):
    def test_rows_of_given_tables_alone(self):
        self.assertEqual(chain_rows(PLAN, (LAST,)), ((0, (0, 1)),))
        self.assertEqual(chain_rows(PLAN, (LAST, (0, 0, 0, (7, 8, 7)), FIRST)),
                         ((0, (0, 1)), (0, (1, 0)), (0, (7, 8)), (0, (8, 7))))
        self.assertEqual(chain_rows(PLAN, ()), ())
        self.assertEqual(unchanged(self, chain_rows, PLAN, (FIRST,)), STORE)

    def test_more_than_sixty_rows(self):
        links = tuple((0, 0, 0, (k, k + 1, k + 2)) for k in range(70))
        self.assertEqual(chain_rows(PLAN, links), tuple((0, (k, k + 1)) for k in range(71)))


class OtherDealings(unittest.TestCase):
    def test_what_lies_at_a_hand_hangs_on_the_round(self):
        sorts = Sorts((1,), 2)
        first = dealing_by((2,), sorts, 3, lambda kind: (0, 2))
        last = dealing_by((2, 2), sorts, 1, lambda kind: (0,))
        plan = Plan((2,), [(first, (PATH,)), (last, (LONGER,))])
        chain = chain_to(plan, STORE, (1, 0))
        self.assertIsNone(chain_fault(plan, STORE, (1, 0), chain))
        apart = with_round(plan, 0, dealing_by((2,), sorts, 3, lambda kind: (kind[1][0],)))
        self.assertEqual(fault(NoAnswer, chain_to, apart, STORE, (1, 0)), ((1, 0),))
        self.assertEqual(chain_fault(apart, STORE, (1, 0), chain), "hand")
