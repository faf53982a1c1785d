"""[7.5] to [7.7]: plans right for all stores, plans within plans, alike plans."""
import unittest

from meetwhere.asking import answer_of, rows_of
from meetwhere.cases import all_cases, layings
from meetwhere.dealings import Dealing, dealing_by, everywhere
from meetwhere.errors import Apart, NoRound, TooMany
from meetwhere.plans import Plan, plain_run, run_plan, sent_copies, with_round
from meetwhere.planchecks import PlanOutside, PlanParted, plan_right, plan_values, plan_within, plans_alike, round_right
from meetwhere.rightness import Meets, Parted, is_right, right_for_all
from meetwhere.sorts import Sorts
from meetwhere.unfolding import one_round, unfolded
from tests import plain
from tests.plain import fault
from tests.test_leastness import plain_lesser
from tests.test_plans import ALL_TO_0, BY_REMAINDERS, LONGER, PATH, PLAN, SORTS, plainly

BY_FIRST = dealing_by((2,), SORTS, 2, lambda kind: (kind[1][0],))
POOR = with_round(PLAN, 0, BY_FIRST)
NEVER = (("a",), ((0, ("a",)),), (("a", "a"),))
EIGHT = ((), tuple((0, (letter,)) for letter in plain.NAMES), ())


def one_hand(widths, *unions):
    """Return a plan with these unions, in which one hand holds all."""
    tables, rounds = tuple(widths), []
    for union in unions:
        rounds.append((everywhere(tables, Sorts((), 1), 1), union))
        tables += (len(union[0][0]),)
    return Plan(widths, rounds)


def some_plans(many, widths=(1, 2)):
    """Yield plans made up by number with their unfolded unions; those that cannot be unfolded are left out."""
    for number in range(many):
        plan = Plan(widths, plain.some_rounds(number, widths, 1 + number % 3, (1, 2, 2), 1))
        try:
            yield plan, unfolded(plan)
        except TooMany:
            pass


def cases_of(union, plan, told):
    """Yield each case of an unfolded union with its rows and its answer."""
    for index, question in enumerate(union):
        for case in all_cases(question, plan.rounds[0][0].sorts, told):
            yield index, case, rows_of(question, case), answer_of(question, case)


def plain_parted(plan, union):
    """Return what is told of the first least case that a plan run by hand lacks, None if there is none."""
    told = tuple(sorted({term for _, asked in plan for question in asked for term in plain_terms(question)}))
    for index, case, rows, answer in cases_of(union, plan, told):
        if plain_lesser(union, index, case) is None and answer not in plainly(plan, rows, True)[1]:
            return (index, case, rows, answer)
    return None


def plain_terms(question):
    """Return the values among the terms of a question."""
    head, body, pairs = question
    terms = list(head) + [term for _, row in body for term in row] + [term for pair in pairs for term in pair]
    return [term for term in terms if isinstance(term, int)]


def told(result):
    """Return the attributes of a result, None for None."""
    return None if result is None else tuple(vars(result).values())


class Values(unittest.TestCase):
    def test_of_all_rounds(self):
        first = ((7, "a"), ((0, ("a",)),), (("a", 9), (3, 3)))
        last = (("b",), ((1, (7, "b")), (0, (5,))), ())
        plan = Plan((1,), [(everywhere((1,), Sorts((2,), 1), 1), (first,)),
                           (everywhere((1, 2), Sorts((2,), 1), 2), (last, last))])
        self.assertEqual(plan_values(plan), (3, 5, 7, 9))
        self.assertEqual(plan_values(PLAN), ())
        for plan, _ in some_plans(60):
            values = {term for _, union in plan for question in union for term in plain_terms(question)}
            self.assertEqual(plan_values(plan), tuple(sorted(values)))


class Example(unittest.TestCase):
    def test_right(self):
        self.assertEqual(unfolded(PLAN), ((("a", "d"), ((0, ("a", "b")), (0, ("b", "c")), (0, ("c", "d"))), ()),))
        self.assertIsNone(plan_right(PLAN))

    def test_not_right(self):
        found = plan_right(POOR)
        self.assertIsInstance(found, PlanParted)
        self.assertEqual(told(found), (0, (0, 1, 0, 1), ((0, (0, 1)), (0, (1, 0))), (0, 1)))
        self.assertEqual(list(vars(found)), ["index", "case", "store", "answer"])

    def test_right_although_a_round_is_not(self):
        loop = (("a",), ((1, ("a", "b")), (0, ("a", "a"))), ())
        plan = Plan((2,), [(BY_FIRST, (PATH,)), (ALL_TO_0, (loop,))])
        self.assertIsNone(plan_right(plan))
        self.assertIsInstance(round_right(plan, 0), Parted)
        self.assertIsInstance(round_right(plan, 1), Meets)
        self.assertIsInstance(right_for_all(unfolded(plan), everywhere((2,), SORTS, 2)), Meets)


class Right(unittest.TestCase):
    def test_against_plain_runs_on_the_rows_of_every_case(self):
        seen = []
        for plan, union in some_plans(240):
            right = plain_parted(plan, union)
            self.assertEqual(told(plan_right(plan)), right)
            seen.append((len(plan), right is None))
        for many in (1, 2, 3):
            self.assertGreater(seen.count((many, True)), 8)
            self.assertGreater(seen.count((many, False)), 8)

    def test_it_decides_for_all_stores(self):
        for number, (plan, _) in enumerate(some_plans(90)):
            parted = plan_right(plan)
            if parted is not None:
                self.assertNotIn(parted.answer, run_plan(plan, parted.store).answered)
                self.assertIn(parted.answer, plain_run(plan, parted.store).answered)
                continue
            stores = list(plain.all_stores((1, 2), (0, 1, 3), 2))
            stores += [plain.some_store(1000 * number + k, (1, 2), 9, 7) for k in range(40)]
            for store in stores:
                self.assertEqual(run_plan(plan, store).answered, plain_run(plan, store).answered)

    def test_rounds_that_are_right_make_a_plan_right(self):
        seen = 0
        for plan, _ in some_plans(240):
            if all(isinstance(round_right(plan, index), Meets) for index in range(len(plan))):
                self.assertIsNone(plan_right(plan))
                seen += len(plan) > 1
        self.assertGreater(seen, 8)

    def test_a_plan_of_one_round_is_right_as_its_union_is(self):
        for plan, _ in some_plans(150):
            dealing, union = plan.rounds[0]
            alone = Plan(plan.widths, [(dealing, union)])
            self.assertIs(plan_right(alone) is None, is_right(union, dealing))

    def test_the_first_least_case_with_told_and_named_values(self):
        # The case (0, 1) comes first, but it is told by its values: 3 is told by the second round alone.
        pair = (("a", "b"), ((0, ("a",)), (0, ("b",))), ())
        last = ((), ((1, ("a", "b")),), (("a", 3),))
        for named in ((), (0,), (3, 4)):
            sorts = Sorts(named, 1)
            first = dealing_by((1,), sorts, 2, lambda kind: (0,) if kind[1][0] == 0 else (1,))
            plan = Plan((1,), [(first, (pair,)), (everywhere((1, 2), sorts, 1), (last,))])
            self.assertEqual(told(plan_right(plan)), plain_parted(plan, unfolded(plan)))
            self.assertIsNone(plan_right(plan))
            apart = Plan((1,), [(first, (pair,)), (everywhere((1, 2), sorts, 1), (last[:2] + ((("a", "b"),),),))])
            self.assertEqual(told(plan_right(apart)), plain_parted(apart, unfolded(apart)))
            self.assertEqual(plan_right(apart) is None, named == ())

    def test_what_is_not_least_does_not_count(self):
        both = (("a",), ((0, ("a",)), (0, ("b",))), ())
        apart = Dealing((1,), SORTS, 2, [((0, (0,)), (0,)), ((0, (1,)), (1,))])
        self.assertIsNone(plan_right(Plan((1,), [(apart, (both,))])))
        unlike = both[:2] + ((("a", "b"),),)
        self.assertEqual(told(plan_right(Plan((1,), [(apart, (unlike,))]))),
                         (0, (0, 1), ((0, (0,)), (0, (1,))), (0,)))

    def test_an_empty_unfolded_union_is_right(self):
        nowhere = Dealing((1,), SORTS, 2, ())
        plan = Plan((1,), [(nowhere, (NEVER,))])
        self.assertEqual(unfolded(plan), ())
        self.assertIsNone(plan_right(plan))
        self.assertIsNone(plan_within(plan, plan))
        # Its round is right, too, and so is one that asks a table that is never made anything.
        self.assertTrue(round_right(plan, 0) == Meets(()))

    def test_bounds(self):
        def asking(names, values=()):
            body = tuple((0, (term,)) for term in tuple(plain.NAMES[:names]) + values)
            return one_hand((1,), (((), body, ()),))
        self.assertEqual([layings(7, 0, 1), layings(8, 0, 1)], [877, 4140])
        self.assertIsNone(plan_right(asking(7)))
        self.assertEqual(fault(TooMany, plan_right, asking(8)), (1000,))
        # Values that the unfolded union does not have, because it has no pairs of two values, are told as well.
        seven = (("a",), tuple((0, (name,)) for name in plain.NAMES[:7]), ())
        for pairs in ((), ((5, 6),)):
            plan = one_hand((1,), (seven,), (((), ((1, ("a",)),), pairs),))
            self.assertEqual(unfolded(plan), (((), seven[1], ()),))
            if pairs:
                self.assertEqual(fault(TooMany, plan_right, plan), (1000,))
            else:
                self.assertIsNone(plan_right(plan))

    def test_bounds_come_ahead_of_any_result(self):
        # The first question is parted, and the second one has too many layings.
        first = ((), ((1, (1,)),), ())
        nowhere, full = Dealing((1, 1), SORTS, 1, ()), everywhere((1, 1), SORTS, 1)
        plan, other = Plan((1, 1), [(nowhere, (first, EIGHT))]), Plan((1, 1), [(full, (first, EIGHT))])
        self.assertEqual(fault(TooMany, plan_right, plan), (1000,))
        self.assertEqual(fault(TooMany, plan_within, other, plan), (1000,))
        self.assertEqual(fault(TooMany, plans_alike, other, plan), (1000,))
        alone = Plan((1, 1), [(nowhere, (first,))])
        self.assertEqual(told(plan_right(alone)), (0, (), ((1, (1,)),), ()))
        self.assertEqual(fault(TooMany, plans_alike, Plan((1, 1), [(full, (first,))]), other), (1000,))
        self.assertEqual(fault(TooMany, plans_alike, Plan((1, 1), [(full, (first,))]), plan), (1000,))

    def test_what_unfolded_raises(self):
        values = tuple(((value,), ((0, (value,)),), ()) for value in range(6))
        plan = one_hand((1,), values, ((("a",), ((1, ("a",)),) * 6, ()),))
        self.assertEqual(fault(TooMany, plan_right, plan), (4096,))
        wide = (("a",), tuple((0, (name,)) for name in plain.NAMES), ())
        plan = one_hand((1,), (wide,), ((("a",), ((1, ("a",)), (0, ("b",))), ()),))
        self.assertEqual(fault(TooMany, plan_right, plan), (8,))


class RoundRight(unittest.TestCase):
    def test_it_is_right_for_all_of_the_round(self):
        self.assertTrue(round_right(PLAN, 0) == right_for_all((PATH,), BY_REMAINDERS))
        self.assertEqual(len(round_right(PLAN, 0).rows), 22)
        parted = round_right(POOR, 0)
        self.assertEqual(told(parted), told(right_for_all((PATH,), BY_FIRST)))
        for plan, _ in some_plans(60):
            for index, (dealing, union) in enumerate(plan):
                self.assertTrue(round_right(plan, index) == right_for_all(union, dealing))

    def test_made_tables_may_have_any_rows(self):
        # Round 0 never makes (0, 1), and yet round 1 is judged as if it might.
        loop = (("a", "a"), ((0, ("a", "a")),), ())
        apart = dealing_by((2, 2), SORTS, 2, lambda kind: (kind[1][0],))
        plan = Plan((2,), [(BY_FIRST, (loop,)), (apart, ((("a", "c"), ((1, ("a", "b")), (1, ("b", "c"))), ()),))])
        self.assertIsNone(plan_right(plan))
        self.assertIsInstance(round_right(plan, 1), Parted)
        self.assertEqual(round_right(plan, 1).store, ((1, (0, 1)), (1, (1, 0))))

    def test_errors(self):
        for index in (2, -1, True, False, None, "0", 0.0, [0], ()):
            self.assertEqual(fault(NoRound, round_right, PLAN, index), (plain.in_tuples(index),))
        self.assertEqual(fault(TooMany, round_right, one_hand((1,), (EIGHT,)), 0), (1000,))
        self.assertEqual(fault(NoRound, round_right, one_hand((1,), (EIGHT,)), 1), (1,))
        # The other round may have too many layings.
        plan = one_hand((1,), ((("a",), EIGHT[1], ()),), (((), ((1, ("a",)),), ()),))
        self.assertTrue(round_right(plan, 1) == Meets(((0, (0,), 0),)))
        self.assertEqual(fault(TooMany, round_right, plan, 0), (1000,))


class Within(unittest.TestCase):
    def first_outside(self, plan, other):
        """Return what is told of the first case that shows that a plan is not within another one, None if none does."""
        values = tuple(sorted(set(plan_values(plan)) | set(plan_values(other))))
        for index, case, rows, answer in cases_of(unfolded(plan), plan, values):
            if answer in plainly(plan, rows, True)[1] and answer not in plainly(other, rows, True)[1]:
                return (index, case, rows, answer)
        return None

    def couples(self, many):
        """Yield couples of plans that can be compared, some of which are akin."""
        plans = [plan for plan, _ in some_plans(many)]
        for number, plan in enumerate(plans):
            last, dealing = len(plan) - 1, plan.rounds[-1][0]
            yield plan, with_round(plan, last, plain.some_dealing(number, dealing.widths, dealing.sorts, 2, 0.8))
            yield plan, with_round(plan, last, everywhere(dealing.widths, dealing.sorts, 3))
            if unfolded(plan):
                yield plan, one_round(plan)
                yield one_round(plan), plan
            for other in plans[number + 1:number + 5]:
                if other.rounds[0][0].sorts == plan.rounds[0][0].sorts:
                    yield plan, other

    def test_against_plain_runs_on_the_rows_of_every_case(self):
        seen, alike = [], []
        for plan, other in self.couples(60):
            right = self.first_outside(plan, other)
            found = plan_within(plan, other)
            self.assertEqual(told(found), right)
            self.assertTrue(found is None or isinstance(found, PlanOutside))
            seen.append(right is None)
            both = right is None and self.first_outside(other, plan) is None
            self.assertIs(plans_alike(plan, other), both)
            self.assertIs(plans_alike(other, plan), both)
            alike.append(both)
        for found in (seen, alike):
            self.assertGreater(found.count(True), 40)
            self.assertGreater(found.count(False), 30)

    def test_it_decides_for_all_stores(self):
        for number, (plan, other) in enumerate(self.couples(24)):
            found = plan_within(plan, other)
            if found is not None:
                self.assertIn(found.answer, run_plan(plan, found.store).answered)
                self.assertNotIn(found.answer, run_plan(other, found.store).answered)
                continue
            stores = list(plain.all_stores((1, 2), (0, 1), 2))
            stores += [plain.some_store(100 * number + k, (1, 2), 9, 6) for k in range(10)]
            for store in stores:
                self.assertLessEqual(set(run_plan(plan, store).answered), set(run_plan(other, store).answered))

    def test_cases_that_are_not_least_count(self):
        # The hands have (a) by 0(a), 1(a) from round 0, but not by 0(a) alone, for round 1 deals table 0 to no hand.
        whole, part = (("a",), ((0, ("a",)), (1, ("a",))), ()), (("a",), ((0, ("a",)),), ())
        last = Dealing((1, 1, 1), SORTS, 1, [((2, (0,)), (0,)), ((2, (1,)), (0,))])
        plan = Plan((1, 1), [(everywhere((1, 1), SORTS, 1), (whole,)), (last, ((("a",), ((2, ("a",)),), ()), part))])
        self.assertEqual(unfolded(plan), (whole, part))
        deaf = Plan((1, 1), [(Dealing((1, 1), SORTS, 1, ()), (whole,))])
        self.assertEqual(told(plan_within(plan, deaf)), (0, (0,), ((0, (0,)), (1, (0,))), (0,)))
        self.assertEqual(told(plan_right(plan)), (1, (0,), ((0, (0,)),), (0,)))
        self.assertIs(plans_alike(plan, Plan((1, 1), [(everywhere((1, 1), SORTS, 1), (whole,))])), True)

    def test_heads_of_unlike_lengths(self):
        one, two = one_hand((1,), ((("a",), ((0, ("a",)),), ()),)), one_hand((1,), (((), ((0, ("a",)),), ()),))
        self.assertEqual(told(plan_within(one, two)), (0, (0,), ((0, (0,)),), (0,)))
        self.assertEqual(told(plan_within(two, one)), (0, (0,), ((0, (0,)),), ()))
        self.assertIs(plans_alike(one, two), False)
        # Two plans that never answer, with heads of unlike lengths.
        deaf = Plan((1,), [(Dealing((1,), Sorts((), 1), 1, ()), two.rounds[0][1])])
        self.assertIs(plans_alike(deaf, Plan((1,), [(deaf.rounds[0][0], one.rounds[0][1])])), True)
        self.assertIsNone(plan_within(deaf, one))

    def test_an_empty_unfolded_union_lies_within_every_plan(self):
        never, one = one_hand((1,), (NEVER,)), one_hand((1,), ((("a", "a"), ((0, ("a",)),), ()),))
        self.assertIsNone(plan_within(never, one))
        self.assertEqual(told(plan_within(one, never)), (0, (0,), ((0, (0,)),), (0, 0)))
        self.assertIs(plans_alike(never, one), False)
        self.assertIs(plans_alike(never, never), True)

    def test_plans_that_are_not_right_may_be_alike_and_the_lesser_may_send_more(self):
        other = with_round(POOR, 1, everywhere((2, 2), SORTS, 3))
        self.assertIsNotNone(plan_right(POOR))
        self.assertIsNotNone(plan_right(other))
        self.assertIs(plans_alike(POOR, other), True)
        store = ((0, (0, 1)), (0, (1, 0)))
        self.assertLess(sent_copies(POOR, store), sent_copies(other, store))
        self.assertIsNone(plan_within(POOR, PLAN))
        self.assertEqual(told(plan_within(PLAN, POOR)), (0, (0, 1, 0, 1), store, (0, 1)))

    def test_told_are_the_values_of_both(self):
        one = one_hand((1,), ((("a",), ((0, ("a",)),), ()),))
        two = one_hand((1,), ((("a",), ((0, ("a",)),), (("a", 4),)),))
        self.assertEqual(told(plan_within(one, two)), (0, (4,), ((0, (4,)),), (4,)))
        self.assertIsNone(plan_within(two, one))
        self.assertIs(plans_alike(two, one), False)

    def test_apart(self):
        values = tuple(((value,), ((0, (value,)),), ()) for value in range(6))
        bad = one_hand((1,), values, ((("a",), ((1, ("a",)),) * 6, ()),))
        finer = Plan((1,), [(everywhere((1,), Sorts((), 2), 1), (EIGHT,))])
        wider = Plan((1, 1), [(everywhere((1, 1), Sorts((), 2), 1), (EIGHT,))])
        for function in (plan_within, plans_alike):
            self.assertEqual(fault(Apart, function, bad, wider), ("widths",))
            self.assertEqual(fault(Apart, function, wider, bad), ("widths",))
            self.assertEqual(fault(Apart, function, bad, finer), ("sorts",))
            self.assertEqual(fault(Apart, function, finer, bad), ("sorts",))
        # The widths of made tables do not matter.
        one = one_hand((1,), ((("a",), ((0, ("a",)),), ()),))
        two = one_hand((1,), (((2, 2), ((0, ("a",)),), ()),), (EIGHT,))
        self.assertEqual(fault(TooMany, plans_alike, one, two), (1000,))
        self.assertEqual(told(plan_within(one, two)), (0, (2,), ((0, (2,)),), (2,)))

    def test_bounds(self):
        values = tuple(((value,), ((0, (value,)),), ()) for value in range(6))
        bad = one_hand((1,), values, ((("a",), ((1, ("a",)),) * 6, ()),))
        wide = (("a",), tuple((0, (name,)) for name in plain.NAMES), ())
        worse = one_hand((1,), (wide,), ((("a",), ((1, ("a",)), (0, ("b",))), ()),))
        eight, one = one_hand((1,), (EIGHT,)), one_hand((1,), (((), ((0, ("a",)),), ()),))
        for function in (plan_within, plans_alike):
            self.assertEqual(fault(TooMany, function, bad, worse), (4096,))
            self.assertEqual(fault(TooMany, function, worse, bad), (8,))
            self.assertEqual(fault(TooMany, function, eight, one), (1000,))
        self.assertEqual(fault(TooMany, plans_alike, eight, bad), (4096,))
        self.assertEqual(fault(TooMany, plans_alike, one, eight), (1000,))
        self.assertEqual(fault(TooMany, plans_alike, one, bad), (4096,))
        # Only what is gone through counts: the other plan need not even be unfolded.
        self.assertIsNone(plan_within(one, eight))
        self.assertEqual(told(plan_within(one, bad)), (0, (0,), ((0, (0,)),), ()))
        # Values of the other plan make the layings more.
        seven = one_hand((1,), (((), tuple((0, (name,)) for name in plain.NAMES[:7]), ()),))
        self.assertIsNone(plan_within(seven, one))
        self.assertEqual(fault(TooMany, plan_within, seven, one_hand((1,), (((), ((0, (3,)),), ()),))), (1000,))
