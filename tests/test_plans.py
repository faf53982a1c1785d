"""[7.1], [7.2]: plans, and what they make, answer and send."""
import unittest

from meetwhere.dealings import Dealing, dealing_by, everywhere
from meetwhere.errors import BadPlan, BadQuestion, BadStore, BadUnion, BadWidths, NoRound
from meetwhere.plans import Plan, PlanRun, plain_run, run_plan, sent_copies, with_round
from meetwhere.sorts import Sorts
from tests import plain
from tests.plain import NO_SEQUENCES, fault, in_tuples, unchanged

SORTS = Sorts((), 2)
PATH = (("a", "c"), ((0, ("a", "b")), (0, ("b", "c"))), ())
LONGER = (("a", "d"), ((1, ("a", "b")), (0, ("b", "d"))), ())
BY_REMAINDERS = dealing_by((2,), SORTS, 2, lambda kind: sorted(set(kind[1])))
ALL_TO_0 = dealing_by((2, 2), SORTS, 2, lambda kind: (0,))
PLAN = Plan((2,), [(BY_REMAINDERS, (PATH,)), (ALL_TO_0, (LONGER,))])
STORE = ((0, (0, 1)), (0, (1, 0)))


def some_plans(many):
    """Yield plans and stores made up by number."""
    for number in range(many):
        widths = ((2,), (1, 2))[number % 2]
        rounds = plain.some_rounds(number, widths, 1 + number % 3)
        yield Plan(widths, rounds), plain.some_store(number, widths, 2, 12)


def plainly(plan, store, hands):
    """Return what a plan makes and answers, round by round, with or without hands, and the rows of each round."""
    rows, made, answered, dealt = tuple(store), [], (), []
    for index, (dealing, union) in enumerate(plan.rounds):
        dealt.append(rows)
        answered = plain.together(union, dealing, rows) if hands else plain.answers(union, rows)
        made.append(tuple((len(plan.widths) + index, answer) for answer in answered))
        rows = rows + made[-1]
    return tuple(made[:-1]), answered, dealt


class Made(unittest.TestCase):
    def test_attributes(self):
        self.assertEqual(PLAN.widths, (2,))
        self.assertEqual(PLAN.rounds, ((BY_REMAINDERS, (PATH,)), (ALL_TO_0, (LONGER,))))
        self.assertEqual((PLAN.all_widths, len(PLAN), list(PLAN)), ((2, 2), 2, list(PLAN.rounds)))
        one = Plan([2], [[BY_REMAINDERS, plain.in_lists((PATH,))]])
        self.assertEqual((one.all_widths, len(one), one.widths), ((2,), 1, (2,)))
        self.assertEqual(one.rounds, ((BY_REMAINDERS, (PATH,)),))
        self.assertTrue(plain.is_deep_tuple(one.rounds) and plain.is_deep_tuple(one.widths))

    def test_nothing_is_changed_or_kept(self):
        rounds = [[BY_REMAINDERS, plain.in_lists((PATH,))], [ALL_TO_0, plain.in_lists((LONGER,))]]
        widths = [2]
        plan = Plan(widths, rounds)
        plain.wreck(rounds)
        widths.clear()
        self.assertTrue(plan == PLAN)
        self.assertEqual(run_plan(plan, STORE).answered, ((0, 1), (1, 0)))

    def test_rounds_with_unlike_numbers_of_hands(self):
        three = Plan((2,), [(everywhere((2,) * (at + 1), SORTS, hands), (PATH if at == 0 else LONGER,))
                            for at, hands in enumerate((1, 8, 3))])
        self.assertEqual((len(three), three.all_widths), (3, (2, 2, 2)))
        self.assertEqual([dealing.hands for dealing, _ in three], [1, 8, 3])
        self.assertEqual(sent_copies(three, STORE), (2, 8 * 4, 3 * 6))

    def test_six_tables_and_seven(self):
        sorts, question = Sorts((), 1), (("a", "a", 7), ((0, ("a",)),), ())
        for given in range(1, 7):
            rounds = [(everywhere((1,) * given + (3,) * at, sorts, 1), (question,)) for at in range(3)
                      if given + at <= 6]
            if given <= 4:
                self.assertEqual(Plan((1,) * given, rounds).all_widths, (1,) * given + (3, 3))
            else:
                self.assertEqual(fault(BadPlan, Plan, (1,) * given, [None] * (8 - given)), (0, "tables"))
                self.assertEqual(len(Plan((1,) * given, rounds[:7 - given])), 7 - given)
        self.assertEqual(fault(BadPlan, Plan, (1,) * 6, [None, None]), (0, "tables"))
        self.assertEqual(fault(BadPlan, Plan, (1,) * 6, [None]), (0, "round"))

    def test_errors_in_their_order(self):
        right = (BY_REMAINDERS, (PATH,))
        self.assertEqual(fault(BadWidths, Plan, (2, 0), None), (1,))
        for thing in NO_SEQUENCES + ((), [None] * 4):
            self.assertEqual(fault(BadPlan, Plan, (2,), thing), (0, "many"))
        for thing in (None, 5, "ab", (), (BY_REMAINDERS,), (BY_REMAINDERS, (PATH,), 0), (None, (PATH,)),
                      (SORTS, (PATH,)), {0: 1, 1: 2}, ((PATH,), BY_REMAINDERS)):
            self.assertEqual(fault(BadPlan, Plan, (2,), [thing]), (0, "round"))
            self.assertEqual(fault(BadPlan, Plan, (2,), [right, thing, None]), (1, "round"))
        self.assertEqual(fault(BadPlan, Plan, (2, 1), [(BY_REMAINDERS, None)]), (0, "widths"))
        self.assertEqual(fault(BadPlan, Plan, (2,), [right, (BY_REMAINDERS, None)]), (1, "widths"))
        for widths, what in (((2, 1), "widths"), ((2,), "widths"), ((2, 2, 2), "widths"), ((2, 2), "sorts")):
            other = everywhere(widths, Sorts((), 3), 2)
            self.assertEqual(fault(BadPlan, Plan, (2,), [right, (other, None)]), (1, what))
        self.assertEqual(fault(BadUnion, Plan, (2,), [right, (ALL_TO_0, None)]), ("many", 0))
        self.assertEqual(fault(BadQuestion, Plan, (2,), [right, (ALL_TO_0, (LONGER, None))]), ("form", 0))
        self.assertEqual(fault(BadQuestion, Plan, (2,), [(BY_REMAINDERS, (LONGER,)), None]), ("table", 0))
        self.assertEqual(fault(BadUnion, Plan, (2,), [(BY_REMAINDERS, (PATH, ((), PATH[1], ()))), None]), ("heads", 1))
        none = ((), PATH[1], ())
        self.assertEqual(fault(BadPlan, Plan, (2,), [(BY_REMAINDERS, ())]), (0, "heads"))
        self.assertEqual(fault(BadPlan, Plan, (2,), [(BY_REMAINDERS, ()), None]), (0, "heads"))
        self.assertEqual(fault(BadPlan, Plan, (2,), [(BY_REMAINDERS, (none,)), None]), (0, "heads"))
        self.assertEqual(fault(BadPlan, Plan, (2,), [right, (ALL_TO_0, ())]), (1, "heads"))
        self.assertEqual(Plan((2,), [right, (ALL_TO_0, (none,))]).all_widths, (2, 2))
        self.assertEqual(fault(BadPlan, Plan, (2,), [right, (ALL_TO_0, (none,)), None]), (1, "heads"))

    def test_equal(self):
        same = Plan([2], [[BY_REMAINDERS, [PATH]], [dealing_by((2, 2), SORTS, 2, lambda kind: [0]), [LONGER]]])
        self.assertTrue(PLAN == same)
        self.assertFalse(PLAN != same)
        for other in (Plan((2,), PLAN.rounds[:1]), with_round(PLAN, 1, everywhere((2, 2), SORTS, 2)), PLAN.rounds, None,
                      Plan((2,), [PLAN.rounds[0], (ALL_TO_0, (LONGER, LONGER))]),
                      Plan((2, 1), [(everywhere((2, 1), SORTS, 2), (PATH,))])):
            self.assertTrue(PLAN != other)
            self.assertFalse(PLAN == other)


class WithRound(unittest.TestCase):
    def test_another_dealing(self):
        wide, first = everywhere((2, 2), SORTS, 5), everywhere((2,), SORTS, 1)
        self.assertEqual(with_round(PLAN, 1, wide).rounds, ((BY_REMAINDERS, (PATH,)), (wide, (LONGER,))))
        self.assertEqual(with_round(PLAN, 0, first).rounds, ((first, (PATH,)), (ALL_TO_0, (LONGER,))))
        self.assertEqual(PLAN.rounds[0][0], BY_REMAINDERS)

    def test_errors(self):
        for index in (2, -1, True, False, None, "0", 0.0, [0], ()):
            self.assertEqual(fault(NoRound, with_round, PLAN, index, None), (in_tuples(index),))
        self.assertEqual(fault(BadPlan, with_round, PLAN, 1, None), (1, "round"))
        self.assertEqual(fault(BadPlan, with_round, PLAN, 1, BY_REMAINDERS), (1, "widths"))
        self.assertEqual(fault(BadPlan, with_round, PLAN, 0, ALL_TO_0), (0, "widths"))
        # The sorts of round 0 are those by which the others are judged.
        self.assertEqual(fault(BadPlan, with_round, PLAN, 0, everywhere((2,), Sorts((), 3), 2)), (1, "sorts"))
        self.assertEqual(fault(BadPlan, with_round, PLAN, 1, everywhere((2, 2), Sorts((), 3), 2)), (1, "sorts"))


class Runs(unittest.TestCase):
    def test_ordinary(self):
        run = run_plan(PLAN, STORE)
        self.assertEqual((run.made, run.answered), ((((1, (0, 0)), (1, (1, 1))),), ((0, 1), (1, 0))))
        self.assertTrue(run == plain_run(PLAN, STORE))
        self.assertEqual(sent_copies(PLAN, STORE), (4, 4))
        poor = with_round(PLAN, 0, dealing_by((2,), SORTS, 2, lambda kind: (kind[1][0],)))
        self.assertTrue(run_plan(poor, STORE) == PlanRun(((),), ()))
        self.assertTrue(plain_run(poor, STORE) == run)
        self.assertEqual(sent_copies(poor, STORE), (2, 2))

    def test_against_answering_round_by_round(self):
        unlike = 0
        for plan, store in some_plans(240):
            made, answered, dealt = plainly(plan, store, True)
            found = unchanged(self, run_plan, plan, store)
            self.assertTrue(found == PlanRun(made, answered))
            copies = tuple(sum(len(dealing(row)) for row in rows) for rows, (dealing, _) in zip(dealt, plan))
            self.assertEqual(unchanged(self, sent_copies, plan, store), copies)
            made, answered, _ = plainly(plan, store, False)
            whole = unchanged(self, plain_run, plan, store)
            self.assertTrue(whole == PlanRun(made, answered))
            self.assertEqual(len(found.made), len(plan) - 1)
            self.within(found, whole)
            unlike += found != whole
        self.assertGreater(unlike, 20)

    def within(self, run, other):
        """Check that a run answers and makes nothing that another one does not."""
        self.assertLessEqual(set(run.answered), set(other.answered))
        for part, whole in zip(run.made, other.made):
            self.assertLessEqual(set(part), set(whole))

    def test_more_rows_and_more_hands_lose_nothing(self):
        for number, (plan, store) in enumerate(some_plans(120)):
            run = run_plan(plan, store)
            self.within(run_plan(plan, store[1:]), run)
            index = number % len(plan)
            dealing = plan.rounds[index][0]
            more = dealing | plain.some_dealing(number, dealing.widths, dealing.sorts, dealing.hands)
            self.within(run, run_plan(with_round(plan, index, more), store))

    def test_the_empty_store(self):
        for plan, _ in some_plans(30):
            self.assertTrue(run_plan(plan, ()) == PlanRun(((),) * (len(plan) - 1), ()))
            self.assertEqual(sent_copies(plan, []), (0,) * len(plan))

    def test_heads_of_no_term_in_the_last_round(self):
        plan = Plan((2,), [PLAN.rounds[0], (ALL_TO_0, (((), LONGER[1], ()),))])
        self.assertEqual(run_plan(plan, STORE).answered, ((),))
        self.assertEqual(run_plan(plan, STORE[:1]).answered, ())

    def test_rows_in_any_order_and_twice(self):
        self.assertTrue(run_plan(PLAN, [[0, [1, 0]], (0, (0, 1)), [0, (1, 0)]]) == run_plan(PLAN, STORE))

    def test_made_stores_of_more_than_sixty_rows(self):
        store = tuple((0, (k,)) for k in range(60))
        pairs = (("a", "b"), ((0, ("a",)), (0, ("b",))), ())
        back = (("b", "a"), ((1, ("a", "b")),), (("a", 3),))
        ends = ((), ((1, ("a", "b")), (2, ("b", "c")), (2, ("c", "a"))), (("a", "b"),))
        plan = Plan((1,), [(everywhere((1,), SORTS, 2), (pairs,)), (everywhere((1, 2), SORTS, 8), (back,)),
                           (everywhere((1, 2, 2), SORTS, 3), (ends,))])
        run = run_plan(plan, store)
        self.assertEqual([len(part) for part in run.made], [3600, 3540])
        self.assertEqual(run.answered, ((),))
        self.assertTrue(run == plain_run(plan, store))
        self.assertEqual(sent_copies(plan, store), (120, 8 * 3660, 3 * 7200))
        self.assertEqual(run.made[0], tuple((1, (v, w)) for v in range(60) for w in range(60)))

    def test_stores_that_are_none(self):
        for function in (run_plan, plain_run, sent_copies):
            for thing in NO_SEQUENCES:
                self.assertEqual(fault(BadStore, function, PLAN, thing), (0, "many"))
            self.assertEqual(fault(BadStore, function, PLAN, [STORE[0]] * 61), (0, "many"))
            # Table 1 is made, not given.
            self.assertEqual(fault(BadStore, function, PLAN, STORE + ((1, (0, 0)),)), (2, "table"))
            self.assertEqual(fault(BadStore, function, PLAN, ((0, (True, 0)),)), (0, "value"))

    def test_plan_run_is_a_result(self):
        made, answered = [object()], [object()]
        self.assertIs(PlanRun(made, answered).made, made)
        self.assertIs(PlanRun(made, answered).answered, answered)
        self.assertTrue(PlanRun(((),), ((1,),)) == PlanRun(((),), ((1,),)))
        for other in (PlanRun((), ((1,),)), PlanRun(((),), ()), None, (((),), ((1,),))):
            self.assertTrue(PlanRun(((),), ((1,),)) != other)


class Dealings(unittest.TestCase):
    def test_a_dealing_of_made_tables(self):
        one = Dealing((2, 2), SORTS, 2, [((1, (0, 0)), (1,)), ((0, (0, 1)), (1,))])
        plan = with_round(PLAN, 1, one)
        self.assertEqual(run_plan(plan, STORE).answered, ((0, 1),))
        self.assertEqual(sent_copies(plan, STORE), (4, 2))
