"""[7.4]: the plain meaning of a plan, and the plan of one round that asks it."""
import itertools
import unittest

from meetwhere.dealings import everywhere
from meetwhere.errors import NoPlainAnswer, TooMany
from meetwhere.plans import Plan, run_plan
from meetwhere.questions import check_union
from meetwhere.sorts import Sorts
from meetwhere.unfolding import one_round, unfolded
from tests import plain
from tests.plain import NAMES, fault
from tests.test_plans import LONGER, PATH, PLAN, plainly

SORTS = Sorts((), 1)
NEVER = (("a",), ((0, ("a",)),), (("a", "a"),))


def plan_of(widths, *unions):
    """Return a plan with these unions, in which one hand holds all."""
    tables, rounds = tuple(widths), []
    for union in unions:
        rounds.append((everywhere(tables, SORTS, 1), union))
        tables += (len(union[0][0]),)
    return Plan(widths, rounds)


def some_plan(number, most_atoms=2):
    """Return a plan made up by number."""
    widths = ((2,), (1, 2), (1,))[number % 3]
    return Plan(widths, plain.some_rounds(number, widths, 1 + number % 3))


def classes_of(couples):
    """Return what terms become that are made one, by joining sets until none share a term; None if values clash."""
    sets = [set(couple) for couple in couples]
    while True:
        clash = [(one, two) for one, two in itertools.combinations(sets, 2) if one & two]
        if not clash:
            break
        one, two = clash[0]
        sets = [other for other in sets if other is not one and other is not two] + [one | two]
    new = {}
    for one in sets:
        values = {term for term in one if isinstance(term, int)}
        if len(values) > 1:
            return None
        best = values.pop() if values else min(one, key=str)
        new.update({term: best for term in one})
    return new


def renamed(question, new):
    def to(terms):
        return tuple(new.get(term, term) for term in terms)
    return (to(question[0]), tuple((table, to(terms)) for table, terms in question[1]), tuple(map(to, question[2])))


def one_choice(question, chosen, given):
    """Return the question of a choice by the five rules one after another, None if it falls away."""
    parts = [renamed(part, {name: (name, number) for name in plain.names_of(part)})
             for number, part in enumerate((question,) + chosen)]
    head, body, pairs = parts[0]
    made = [terms for table, terms in body if table >= given]
    new = classes_of([couple for terms, part in zip(made, parts[1:]) for couple in zip(terms, part[0])])
    if new is None:
        return None
    bodies = iter(parts[1:])
    atoms = [atom for table, terms in body for atom in (next(bodies)[1] if table >= given else ((table, terms),))]
    head, atoms, pairs = renamed((head, tuple(atoms), pairs + sum((part[2] for part in parts[1:]), ())), new)
    kept = []
    for one, two in pairs:
        if one == two:
            return None
        if not (isinstance(one, int) and isinstance(two, int)) and (one, two) not in kept and (two, one) not in kept:
            kept.append((one, two))
    atoms = tuple(dict.fromkeys(atoms))
    marks = list(dict.fromkeys(term for _, terms in atoms for term in terms if not isinstance(term, int)))
    if max(len(marks), len(atoms), len(kept)) > 8:
        raise OverflowError(8)
    return renamed((head, atoms, tuple(kept)), dict(zip(marks, NAMES)))


def plain_meaning(plan):
    """Return the unfolded union of a plan as the rules tell it; OverflowError with the bound that is passed."""
    made = []
    for _, union in plan.rounds:
        found = []
        for question in union:
            options = [made[table - len(plan.widths)] for table, _ in question[1] if table >= len(plan.widths)]
            choices = list(itertools.product(*options))
            if len(choices) > 4096:
                raise OverflowError(4096)
            for chosen in choices:
                one = one_choice(question, chosen, len(plan.widths))
                if one is not None and one not in found:
                    found.append(one)
                    if len(found) > 6:
                        raise OverflowError(6)
        made.append(tuple(found))
    return made[-1]


def outcome(function, plan):
    """Return what a call returns, or the bound that is passed."""
    try:
        return function(plan)
    except TooMany as error:
        return error.most
    except OverflowError as error:
        return error.args[0]


class Unfolded(unittest.TestCase):
    def test_example(self):
        self.assertEqual(unfolded(PLAN), ((("a", "d"), ((0, ("a", "b")), (0, ("b", "c")), (0, ("c", "d"))), ()),))

    def test_against_the_rules_one_by_one(self):
        seen = []
        for number in range(1500):
            plan = some_plan(number)
            right = outcome(plain_meaning, plan)
            self.assertEqual(outcome(unfolded, plan), right)
            seen.append(right if isinstance(right, int) else len(right))
            if not isinstance(right, int):
                self.assertEqual(check_union(plan.widths, right), right)
                self.assertTrue(plain.is_deep_tuple(unfolded(plan)))
        for size in (0, 1, 2, 3, 4):
            self.assertGreater(seen.count(size), 5)

    def test_it_answers_as_the_plan_in_one_place_on_all_small_stores(self):
        asked = 0
        for number in range(120):
            plan = some_plan(number)
            union = outcome(unfolded, plan)
            if isinstance(union, int):
                continue
            for store in plain.all_stores(plan.widths, (0, 1, 2), 2 if number % 4 else 3):
                self.assertEqual(plain.answers(union, store), plainly(plan, store, False)[1])
                asked += 1
            self.assertEqual(plain.answers(union, plain.some_store(number, plan.widths, 3, 8)),
                             plainly(plan, plain.some_store(number, plan.widths, 3, 8), False)[1])
        self.assertGreater(asked, 3000)

    def test_one_round(self):
        # Names are given anew, equal atoms, pairs and questions go, and so does what never answers.
        first = (("c",), ((0, ("b", "c")), (0, ("c", 3)), (0, ("b", "c"))), (("c", "b"), ("b", "c"), (1, 2), ("b", 3)))
        same = (("h",), ((0, ("g", "h")), (0, ("h", 3))), (("h", "g"), ("g", 3), ("g", "h")))
        never = (("a",), ((0, ("a", "a")),), ((2, 2),))
        right = (("b",), ((0, ("a", "b")), (0, ("b", 3))), (("b", "a"), ("a", 3)))
        self.assertEqual(unfolded(plan_of((2,), (never, first, same, first))), (right,))
        self.assertEqual(unfolded(plan_of((1,), (NEVER,))), ())
        # The order of atoms and of pairs matters, and so does how a pair is turned.
        turned = (("b",), ((0, ("b", 3)), (0, ("a", "b"))), ())
        plain_one = (("b",), ((0, ("a", "b")), (0, ("b", 3))), ())
        self.assertEqual(unfolded(plan_of((2,), (plain_one, turned))),
                         (plain_one, (("a",), ((0, ("a", 3)), (0, ("b", "a"))), ())))
        pair, other = plain_one[:2] + ((("a", "b"),),), plain_one[:2] + ((("b", "a"),),)
        self.assertEqual(unfolded(plan_of((2,), (pair, other))), (pair, other))

    def test_names_of_a_question_chosen_twice_stay_apart(self):
        first = (("a",), ((0, ("a", "b")),), (("a", "b"),))
        asked = (("a", "b"), ((1, ("a",)), (1, ("b",)), (0, ("a", "b"))), (("a", "b"),))
        self.assertEqual(unfolded(plan_of((2,), (first,), (asked,))), ((
            ("a", "c"), ((0, ("a", "b")), (0, ("c", "d")), (0, ("a", "c"))), (("a", "c"), ("a", "b"), ("c", "d"))),))

    def test_choices_and_their_order(self):
        tables = tuple((("a",), ((table, ("a",)),), ()) for table in (0, 1))
        asked = (("a", "b"), ((2, ("a",)), (2, ("b",))), ())
        found = unfolded(plan_of((1, 1), tables, (asked,)))
        self.assertEqual([tuple(table for table, _ in question[1]) for question in found],
                         [(0, 0), (0, 1), (1, 0), (1, 1)])
        # Two made tables: the first atom of any of them varies slowest; each table keeps the order of its questions.
        asked = (("a", "b"), ((3, ("a",)), (0, ("a",)), (2, ("b",))), ())
        found = unfolded(plan_of((1, 1), tables, tables[::-1], (asked,)))
        self.assertEqual([tuple(atom[0] for atom in question[1]) for question in found],
                         [(1, 0, 0), (1, 0, 1), (0, 0), (0, 1)])

    def test_values_stand_for_names(self):
        first = (("a", 5), ((0, ("a", "b")),), (("b", 5), ("b", 6)))
        asked = (("a", "b"), ((1, ("a", "b")), (0, ("b", "c"))), ())
        self.assertEqual(unfolded(plan_of((2,), (first,), (asked,))),
                         ((("a", 5), ((0, ("a", "b")), (0, (5, "c"))), (("b", 5), ("b", 6))),))
        # Through others: a, b, c and both terms of the heads are one, and one of them is 7.
        twice = (("a", "a"), ((0, ("a", 1)),), ())
        asked = (("a", "b", "c"), ((1, ("a", "b")), (1, ("b", "c")), (1, ("c", 7))), ())
        self.assertEqual(unfolded(plan_of((2,), (twice,), (asked,))), (((7, 7, 7), ((0, (7, 1)),), ()),))

    def test_choices_that_fall_away_by_values(self):
        heads = tuple(((value,), ((0, (value,)),), ()) for value in (1, 2))
        self.assertEqual(unfolded(plan_of((1,), heads, ((("a",), ((1, ("a",)), (0, ("a",))), ()),))),
                         (((1,), ((0, (1,)),), ()), ((2,), ((0, (2,)),), ())))
        self.assertEqual(unfolded(plan_of((1,), heads, ((("a",), ((1, ("a",)), (1, (2,))), ()),))),
                         (((1,), ((0, (1,)), (0, (2,))), ()), ((2,), ((0, (2,)),), ())))
        self.assertEqual(unfolded(plan_of((1,), heads, (((), ((1, (3,)),), ()),))), ())
        # Values that become one through names: a is 1 and 2.
        pair = ((("a", "a"), ((0, ("a",)),), ()),)
        self.assertEqual(unfolded(plan_of((1,), pair, (((), ((1, (1, 2)),), ()),))), ())
        chain = (((), ((1, (1, "a")), (1, ("a", "b")), (1, ("b", 2))), ()),)
        self.assertEqual(unfolded(plan_of((1,), pair, chain)), ())
        chain = (((), ((1, (1, "a")), (1, ("a", "b")), (1, ("b", 1))), ()),)
        self.assertEqual(unfolded(plan_of((1,), pair, chain)), (((), ((0, (1,)),), ()),))

    def test_choices_that_fall_away_by_pairs(self):
        first = ((("a", "b"), ((0, ("a", "b")),), (("a", "b"),)),)
        self.assertEqual(unfolded(plan_of((2,), first, (((), ((1, ("a", "a")),), ()),))), ())
        self.assertEqual(unfolded(plan_of((2,), first, (((), ((1, (4, 4)),), ()),))), ())
        self.assertEqual(unfolded(plan_of((2,), first, (((), ((1, (4, 5)),), ()),))), (((), ((0, (4, 5)),), ()),))
        asked = (("a",), ((1, ("a", "b")), (1, ("b", "a"))), (("a", 4), (4, "a"), ("a", "b")))
        self.assertEqual(unfolded(plan_of((2,), first, (asked,))),
                         ((("a",), ((0, ("a", "b")), (0, ("b", "a"))), (("a", 4), ("a", "b"))),))
        # Only what the pairs become counts: the pair of the question itself may be kept and that of the chosen one not.
        both = (first[0], (("a", "a"), ((0, ("a", 1)),), ()))
        asked = (("a", "b"), ((1, ("a", "b")),), (("a", 3),))
        self.assertEqual(unfolded(plan_of((2,), both, (asked,))),
                         ((("a", "b"), ((0, ("a", "b")),), (("a", 3), ("a", "b"))),
                          (("a", "a"), ((0, ("a", 1)),), (("a", 3),))))

    def test_equal_atoms_and_equal_questions(self):
        first = ((("a",), ((0, ("a", "b")),), ()), (("b",), ((0, ("b", "a")),), ()))
        asked = (("a",), ((1, ("a",)), (0, ("a", "b"))), ())
        # Both questions of round 0 become one, for only the names are unlike.
        self.assertEqual(unfolded(plan_of((2,), first, (asked,))), ((("a",), ((0, ("a", "b")), (0, ("a", "c"))), ()),))
        whole = ((("a", "b"), ((0, ("a", "b")),), ()),)
        asked = (("a",), ((0, ("a", "b")), (1, ("a", "b")), (0, ("b", "a")), (1, ("b", "a"))), ())
        self.assertEqual(unfolded(plan_of((2,), whole, (asked,))), ((("a",), ((0, ("a", "b")), (0, ("b", "a"))), ()),))

    def test_empty_unfolded_unions(self):
        asked = (("a",), ((1, ("a",)), (0, ("a",))), ())
        other = (("a",), ((0, ("a",)),), ())
        self.assertEqual(unfolded(plan_of((1,), (NEVER,), (asked,))), ())
        self.assertEqual(unfolded(plan_of((1,), (NEVER,), (asked, other))), (other,))
        self.assertEqual(unfolded(plan_of((1,), (NEVER,), (asked,), (asked,))), ())
        self.assertEqual(unfolded(plan_of((1,), (NEVER, other), (asked,), (((), ((2, (5,)),), ()),))),
                         (((), ((0, (5,)),), ()),))


class Bounds(unittest.TestCase):
    def values(self, many, table=0):
        """Return a union of so many questions, each with one value in its head."""
        return tuple(((value,), ((table, (value,)),), ()) for value in range(many))

    def test_choices(self):
        # 4 ** 6 choices, and all but 4 of them fall away, for one name cannot have two values.
        asked = ((), ((1, ("a",)),) * 6, ())
        self.assertEqual(unfolded(plan_of((1,), self.values(4), (asked,))),
                         tuple(((), ((0, (value,)),), ()) for value in range(4)))
        for many, atoms in ((5, 6), (6, 5), (3, 8)):
            plan = plan_of((1,), self.values(many), (((), ((1, ("a",)),) * atoms, ()),))
            self.assertEqual(fault(TooMany, unfolded, plan), (4096,))
        # An empty union leaves no choice, however many the others have.
        plan = plan_of((1,), self.values(6), (NEVER,), (((), ((1, ("a",)),) * 7 + ((2, ("a",)),), ()),))
        self.assertEqual(unfolded(plan), ())

    def test_atoms(self):
        def plan_with(atoms, more):
            first = (("a",), tuple((0, ("a", value)) for value in range(atoms)), ())
            return plan_of((2,), (first,), (((), ((1, ("a",)),) + tuple((0, (9, k)) for k in range(more)), ()),))
        self.assertEqual(len(unfolded(plan_with(4, 4))[0][1]), 8)
        self.assertEqual(fault(TooMany, unfolded, plan_with(4, 5)), (8,))
        self.assertEqual(fault(TooMany, unfolded, plan_with(8, 1)), (8,))
        # Nine atoms, of which two are equal.
        first = (("a",), tuple((0, ("a", value)) for value in range(5)), ())
        asked = (("a",), tuple((0, ("a", value)) for value in range(1, 4)) + ((1, ("a",)),) + ((0, ("a", 7)),), ())
        self.assertEqual(len(unfolded(plan_of((2,), (first,), (asked,)))[0][1]), 6)
        # A choice that falls away may have any number.
        first = ((1,), tuple((0, (1, value)) for value in range(8)), ())
        other = ((2,), ((0, (1, 2)),), ())
        asked = ((), ((1, (2,)), (0, (5, 5))), ())
        self.assertEqual(unfolded(plan_of((2,), (first, other), (asked,))), (((), ((0, (1, 2)), (0, (5, 5))), ()),))
        never = (("a", "b"), tuple((0, ("a", value)) for value in range(7)) + ((0, ("b", 1)),), (("a", "b"),))
        asked = ((), ((1, ("a", "a")), (0, (5, 5))), ())
        self.assertEqual(unfolded(plan_of((2,), (never,), (asked,))), ())

    def test_names(self):
        def plan_with(names, more):
            first = (("a",), tuple((0, ("a", name)) for name in NAMES[1:names]), ())
            asked = ((), ((1, ("a",)),) + tuple((0, ("a", name)) for name in NAMES[1:1 + more]), ())
            return plan_of((2,), (first,), (asked,))
        self.assertEqual(len(plain.names_of(unfolded(plan_with(5, 3))[0])), 8)
        self.assertEqual(fault(TooMany, unfolded, plan_with(5, 4)), (8,))
        # Eight atoms with two names each: names alone are too many.
        first = (("a",), ((0, ("a", "b")),), ())
        asked = ((), tuple((1, (name,)) for name in NAMES[:5]), ())
        self.assertEqual(fault(TooMany, unfolded, plan_of((2,), (first,), (asked,))), (8,))
        asked = ((), tuple((1, (name,)) for name in NAMES[:4]), ())
        self.assertEqual(len(plain.names_of(unfolded(plan_of((2,), (first,), (asked,)))[0])), 8)

    def test_pairs(self):
        def plan_with(many, more, again=0):
            first = (("a",), ((0, ("a",)),), tuple(("a", value) for value in range(many)))
            pairs = tuple((value, "a") for value in range(many - again, many - again + more))
            return plan_of((1,), (first,), (((), ((1, ("a",)),), pairs),))
        self.assertEqual(len(unfolded(plan_with(4, 4))[0][2]), 8)
        self.assertEqual(fault(TooMany, unfolded, plan_with(4, 5)), (8,))
        self.assertEqual(fault(TooMany, unfolded, plan_with(8, 8, 7)), (8,))
        self.assertEqual(len(unfolded(plan_with(8, 8, 8))[0][2]), 8)
        # Pairs of two values do not count.
        first = (("a",), ((0, ("a",)),), tuple(("a", value) for value in range(8)))
        asked = (((), ((1, (9,)),), ((9, 1),) * 8),)
        self.assertEqual(unfolded(plan_of((1,), (first,), asked)), (((), ((0, (9,)),), ()),))

    def test_questions(self):
        single = (("a",), ((1, ("a",)), (0, (9,))), ())
        self.assertEqual(len(unfolded(plan_of((1,), self.values(6), (single,)))), 6)
        self.assertEqual(len(unfolded(plan_of((1,), self.values(6), (single,) * 6))), 6)
        more = (("a",), ((0, ("a",)),), ())
        self.assertEqual(fault(TooMany, unfolded, plan_of((1,), self.values(6), (single, single, more))), (6,))
        pairs = (("a", "b"), ((1, ("a",)), (1, ("b",))), ())
        self.assertEqual(len(unfolded(plan_of((1,), self.values(2), (pairs,)))), 4)
        self.assertEqual(fault(TooMany, unfolded, plan_of((1,), self.values(3), (pairs,))), (6,))
        # A round in the middle counts as well, though the last one would never ask what it makes.
        rounds = (self.values(6), (single, more), (more,))
        self.assertEqual(fault(TooMany, unfolded, plan_of((1,), *rounds)), (6,))

    def test_the_first_place_counts(self):
        large = (("a",), tuple((0, ("a", value)) for value in range(8)), ())
        small = tuple((("a",), ((0, ("a", value)),), ()) for value in range(10, 15))
        nine = (("a",), ((1, ("a",)), (0, ("a", 99))), ())
        many = (("a",), ((1, ("a",)),) * 6, ())
        both = small + (large,)
        # The seventh question comes behind a question of nine atoms, or ahead of it.
        self.assertEqual(fault(TooMany, unfolded, plan_of((2,), both, (nine, many))), (8,))
        self.assertEqual(fault(TooMany, unfolded, plan_of((2,), both, (many, nine))), (4096,))
        six = (("a",), ((1, ("a",)), (0, ("a", 98))), ())
        some = small + (((("a",), ((0, ("a", 16)),), ())),)
        self.assertEqual(fault(TooMany, unfolded, plan_of((2,), some, (six, nine, many))), (6,))
        # A seventh question that is too large is told as that.
        pairs = tuple((("a",), ((0, ("a", value)), (0, (value, "a"))), ()) for value in range(10, 16))
        wide = (("a",), tuple((0, ("a", value)) for value in range(7)) + ((1, ("a",)),), ())
        self.assertEqual(fault(TooMany, unfolded, plan_of((2,), pairs, (six, wide))), (8,))
        self.assertEqual(fault(TooMany, unfolded, plan_of((2,), some, (six, wide))), (6,))


class OneRound(unittest.TestCase):
    def test_the_first_dealing_asks_the_unfolded_union(self):
        one = one_round(PLAN)
        self.assertTrue(one == Plan((2,), [(PLAN.rounds[0][0], unfolded(PLAN))]))
        for number in range(200):
            plan = some_plan(number)
            union = outcome(unfolded, plan)
            if isinstance(union, tuple) and union:
                one = one_round(plan)
                self.assertEqual((one.widths, len(one), one.rounds[0][1]), (plan.widths, 1, union))
                self.assertTrue(one.rounds[0][0] == plan.rounds[0][0])
        store = ((0, (0, 1)), (0, (1, 0)))
        self.assertEqual(run_plan(one_round(plan_of((2,), (PATH,), (LONGER,))), store).answered, ((0, 1), (1, 0)))

    def test_a_head_of_no_term(self):
        plan = plan_of((2,), (PATH,), (((), LONGER[1], ()),))
        self.assertEqual(one_round(plan).rounds[0][1], (((), unfolded(PLAN)[0][1], ()),))

    def test_errors(self):
        plan = plan_of((1,), (NEVER,))
        self.assertEqual(fault(NoPlainAnswer, one_round, plan), (plan,))
        single = (("a",), ((1, ("a",)),) * 6, ())
        self.assertEqual(fault(TooMany, one_round, plan_of((1,), Bounds().values(6), (single,))), (4096,))
