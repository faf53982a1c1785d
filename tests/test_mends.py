"""[10.9], [10.10]: goals, and the picks of edits that bring them about, spoil them or keep them."""
import itertools
import random
import unittest

from meetwhere.asking import rows_of
from meetwhere.cases import all_cases
from meetwhere.dealings import Dealing, everywhere
from meetwhere.errors import BadEdits, BadGoal, BadWidths, TooMany
from meetwhere.leastness import least_cases
from meetwhere.mends import check_goal, find_mends, find_spoilers, goal_holds, steady_picks
from meetwhere.needless import copies_of
from meetwhere.questions import union_values
from meetwhere.sorts import Sorts
from tests import plain
from tests.plain import NO_SEQUENCES, fault, in_lists, unchanged
from tests.test_edits import edited, some_edit
from tests.test_moving import BOTH, EIGHT, K, ONE, dealing_with, some_unions

FRAMES = (((1,), Sorts((), 2), 2), ((1, 1), Sorts((), 1), 3), ((1,), Sorts((0,), 1), 3), ((1, 2), Sorts((), 2), 2))
NEVER = (("a",), ((0, ("a",)),), (("a", "a"),))


def some_part(made, frame):
    """Return a goal that is not "both", made up by a source."""
    word = made.choice(("right", "right", "counted", "lost", "room"))
    union = some_unions(made.randrange(400), frame[0])
    if word == "counted":
        return (word, plain.some_question(made.random(), frame[0], 1, 2, 2) if made.random() < 0.5 else ONE[0])
    if word == "lost":
        return (word, made.choice((0, 1, 1, 2)), union)
    return (word, union) if word == "right" else (word, made.randrange(5))


def some_goal(made, frame):
    """Return a goal made up by a source."""
    if made.random() < 0.25:
        return ("both", some_part(made, frame), some_part(made, frame))
    return some_part(made, frame)


def plain_holds(dealing, goal):
    """Return whether a goal holds, by readings and cases."""
    word = goal[0]
    if word == "both":
        return plain_holds(dealing, goal[1]) and plain_holds(dealing, goal[2])
    if word == "room":
        return all(len([kind for kind, lot in dealing.rule if hand in lot]) <= goal[1] for hand in range(dealing.hands))
    if word == "counted":
        union, lowest, highest = (goal[1],), 1, 1
        cases = [(0, case) for case in all_cases(goal[1], dealing.sorts, union_values(union))]
    else:
        union, lowest, highest = goal[-1], goal[1] + 1 if word == "lost" else 1, 99
        cases = list(least_cases(union, dealing.sorts, union_values(union)))
    lots = [plain.lot_of_rows(dealing, rows_of(union[index], case)) for index, case in cases]
    return all(lowest <= len(lot) <= highest for lot in lots)


def all_picks(many):
    """Return all picks of a pool, by length, then ascending."""
    return [pick for length in range(many + 1) for pick in itertools.combinations(range(many), length)]


def after(dealing, frame, pool, pick):
    """Return the dealing behind the edits of a pick."""
    copies = set(copies_of(dealing))
    for index in pick:
        copies = edited(copies, frame, pool[index])
    return dealing_with(frame, sorted(copies))


def least(picks):
    """Return those of the picks that have no other one of them as a part."""
    return [pick for pick in picks if not any(set(other) < set(pick) for other in picks)]


class CheckGoal(unittest.TestCase):
    def test_right_ones_become_tuples(self):
        for goal in (("right", ONE), ("right", ()), ("counted", ONE[0]), ("lost", 0, ONE), ("lost", 7, BOTH),
                     ("room", 0), ("room", 10 ** 12), ("both", ("right", ONE), ("room", 3)),
                     ("both", ("lost", 1, ()), ("counted", BOTH[0])), ("both", ("right", ONE), ("right", ONE))):
            self.assertEqual(check_goal((1,), goal), goal)
            self.assertEqual(unchanged(self, check_goal, (1,), goal), goal)

    def test_widths_come_first(self):
        self.assertEqual(fault(BadWidths, check_goal, (0,), None), (0,))
        self.assertEqual(fault(BadWidths, check_goal, None, None), (0,))

    def test_goal(self):
        wrong = NO_SEQUENCES + ((), [], ("right",), ("right", ONE, ONE), ("counted",), ("counted", ONE[0], 1),
                                ("lost", 1), ("lost", 1, ONE, ONE), ("lost", ONE), ("room",), ("room", 1, 1), ("both",),
                                ("both", ("room", 1)), ("both", ("room", 1), ("room", 1), ("room", 1)), ("Right", ONE),
                                ("", ONE), (None, ONE), (True, ONE), (["right"], ONE), ((), ()), (b"right", ONE),
                                (1, 1), {0: "room", 1: 1}, "right", ("rooms", 1))
        for thing in wrong:
            self.assertEqual(fault(BadGoal, check_goal, (1,), thing), ("goal",), thing)
            self.assertEqual(fault(BadGoal, check_goal, (1,), ("both", thing, ("room", -1))), ("goal",), thing)
            self.assertEqual(fault(BadGoal, check_goal, (1,), ("both", ("room", 1), thing)), ("goal",), thing)
        inner = ("both", ("room", 1), ("room", 1))
        self.assertEqual(fault(BadGoal, check_goal, (1,), ("both", inner, ("room", 1))), ("goal",))
        self.assertEqual(fault(BadGoal, check_goal, (1,), ("both", ("room", 1), inner)), ("goal",))

    def test_words_of_the_parts(self):
        unions = NO_SEQUENCES + ((None,), ONE * 7, ((("a",), ((1, ("a",)),), ()),), ((("b",), ((0, ("a",)),), ()),),
                                 ONE + BOTH, (((True,), ((0, ("a",)),), ()),), (5,))
        for union in unions:
            self.assertEqual(fault(BadGoal, check_goal, (1,), ("right", union)), ("union",))
            self.assertEqual(fault(BadGoal, check_goal, (1,), ("lost", 0, union)), ("union",))
        for question in NO_SEQUENCES + ((), ONE, ((), (), ()), ((), ((0, (True,)),), ()), ((), ((0, ("a", "b")),), ()),
                                        (("b",), ((0, ("a",)),), ()), (("a",), ((0, ("a",)),), (("a",),))):
            self.assertEqual(fault(BadGoal, check_goal, (1,), ("counted", question)), ("question",))
        for number in (-1, 8, True, False, None, "1", 1.0, (1,), [1]):
            self.assertEqual(fault(BadGoal, check_goal, (1,), ("lost", number, None)), ("lost",))
            if number != 8:
                self.assertEqual(fault(BadGoal, check_goal, (1,), ("room", number)), ("room",))

    def test_both_tells_the_first_wrong_part(self):
        parts = {"room": ("room", -1), "lost": ("lost", 9, None), "union": ("right", None), "question": ("counted", 5),
                 "goal": ("left", 1)}
        for (word, part), other in itertools.product(parts.items(), list(parts.values()) + [("room", 1)]):
            self.assertEqual(fault(BadGoal, check_goal, (1,), ("both", part, other)), (word,))
            self.assertEqual(fault(BadGoal, check_goal, (1,), ("both", ("right", ONE), part)), (word,))


class Holds(unittest.TestCase):
    def test_against_plain_readings_and_cases(self):
        seen = []
        for number in range(500):
            made, frame = random.Random(number), FRAMES[number % 4]
            dealing = plain.some_dealing(number, *frame, made.choice((0.3, 0.6, 0.9, 1)))
            goal = some_goal(made, frame)
            right = plain_holds(dealing, goal)
            self.assertIs(unchanged(self, lambda asked: goal_holds(dealing, asked), goal), right)
            seen.append((goal[0], right))
        for word in ("right", "counted", "lost", "room", "both"):
            self.assertGreater(seen.count((word, True)), 5)
            self.assertGreater(seen.count((word, False)), 5)

    def test_bounds_of_lost_and_room(self):
        full, none = everywhere((1,), Sorts((), 2), 8), Dealing((1,), Sorts((), 2), 8, ())
        self.assertIs(goal_holds(full, ("lost", 7, ONE)), True)
        for lost in range(8):
            self.assertIs(goal_holds(full.without((3,)), ("lost", lost, ONE)), lost < 7)
            # Without a least case every number may be lost.
            self.assertIs(goal_holds(none, ("lost", lost, ())), True)
            self.assertIs(goal_holds(none, ("lost", lost, (NEVER,))), True)
            self.assertIs(goal_holds(none, ("lost", lost, ONE)), False)
        self.assertIs(goal_holds(everywhere((1,), Sorts((), 2), 1), ("lost", 0, BOTH)), True)
        self.assertIs(goal_holds(everywhere((1,), Sorts((), 2), 1), ("lost", 1, BOTH)), False)
        for room in (0, 1, 2, 3):
            self.assertIs(goal_holds(full, ("room", room)), room >= 2)
            self.assertIs(goal_holds(none, ("room", room)), True)

    def test_least_readings_and_all_readings(self):
        apart = dealing_with(FRAMES[0], [(K, 0), ((0, (1,)), 1)])
        many = (("a",), ((0, ("a",)), (0, ("b",))), ())
        self.assertIs(goal_holds(apart, ("right", (many,))), True)
        self.assertIs(goal_holds(apart, ("lost", 0, (many,))), True)
        self.assertIs(goal_holds(apart, ("counted", many)), False)
        self.assertIs(goal_holds(apart, ("counted", ONE[0])), True)
        self.assertIs(goal_holds(everywhere(*FRAMES[0]), ("counted", ONE[0])), False)
        self.assertIs(goal_holds(apart, ("counted", NEVER)), True)

    def test_both(self):
        apart = dealing_with(FRAMES[0], [(K, 0), ((0, (1,)), 1)])
        for one, two in itertools.product((("room", 1), ("room", 0)), (("right", ONE), ("right", BOTH))):
            right = one[1] == 1 and two[1] == ONE
            self.assertIs(goal_holds(apart, ("both", one, two)), right)
            self.assertIs(goal_holds(apart, ("both", two, one)), right)

    def test_errors_in_their_order(self):
        full = everywhere((1,), Sorts((), 2), 2)
        self.assertEqual(fault(BadGoal, goal_holds, full, None), ("goal",))
        self.assertEqual(fault(BadGoal, goal_holds, full, ("right", ((("a",), ((1, ("a",)),), ()),))), ("union",))
        self.assertEqual(fault(BadGoal, goal_holds, full, ("both", ("right", EIGHT), ("room", None))), ("room",))
        for goal in (("right", EIGHT), ("lost", 0, EIGHT), ("counted", EIGHT[0])):
            self.assertEqual(fault(TooMany, goal_holds, full, goal), (1000,))
            # Also if the other part fails, wherever it stands.
            self.assertEqual(fault(TooMany, goal_holds, full, ("both", ("room", 0), goal)), (1000,))
            self.assertEqual(fault(TooMany, goal_holds, full, ("both", goal, ("room", 0))), (1000,))
            self.assertEqual(fault(TooMany, goal_holds, full, ("both", goal, goal)), (1000,))


class Picks(unittest.TestCase):
    def settings(self, many):
        """Yield dealings, pools, goals and whether the goal holds after each pick, made up by number."""
        for number in range(many):
            made, frame = random.Random(number), FRAMES[number % 4]
            dealing = plain.some_dealing(number, *frame, made.choice((0.3, 0.6, 0.9)))
            pool = tuple(some_edit(made, frame) for _ in range(1 + number % 5 if number % 20 else 6))
            goal = some_goal(made, frame)
            yield dealing, pool, goal, {pick: plain_holds(after(dealing, frame, pool, pick), goal)
                                        for pick in all_picks(len(pool))}

    def test_against_going_through_all_picks(self):
        found = {function: [] for function in (find_mends, find_spoilers, steady_picks)}
        for dealing, pool, goal, holds in self.settings(320):
            mending = [pick for pick in holds if holds[pick]]
            spoiling = [pick for pick in holds if not holds[pick]]
            steady = [pick for pick in holds if all(holds[other] for other in holds if set(pick) <= set(other))]
            for function, right in ((find_mends, mending), (find_spoilers, spoiling), (steady_picks, steady)):
                picks = unchanged(self, lambda *args: tuple(function(dealing, *args)), pool, goal)
                self.assertEqual(list(picks), least(right))
                found[function].append(picks)
        for function, picks in found.items():
            self.assertGreater(len([one for one in picks if not one]), 3, function)
            self.assertGreater(len([one for one in picks if one == ((),)]), 3, function)
            self.assertGreater(len([one for one in picks if len(one) > 1]), 3, function)
        self.assertNotEqual(found[find_mends], found[steady_picks])

    def test_copy_and_fill_alone(self):
        seen = 0
        for number in range(150):
            made, frame = random.Random(number), FRAMES[number % 4]
            dealing = plain.some_dealing(number, *frame, 0.4)
            pool = [edit for edit in (some_edit(made, frame) for _ in range(9)) if edit[0] in ("copy", "fill")][:5]
            union = some_unions(number, frame[0])
            for goal in (("right", union), ("lost", 1, union)):
                if pool:
                    mends = list(find_mends(dealing, pool, goal))
                    self.assertEqual(mends, list(steady_picks(dealing, pool, goal)))
                    seen += mends not in ([], [()])
        self.assertGreater(seen, 30)

    def test_counts_may_go_wrong_by_more_copies(self):
        none = dealing_with(((1,), Sorts((), 1), 2), [])
        pool, goal = [("copy", K, 0), ("copy", K, 1)], ("counted", ONE[0])
        self.assertEqual(list(find_mends(none, pool, goal)), [(0,), (1,)])
        self.assertEqual(list(steady_picks(none, pool, goal)), [])
        self.assertEqual(list(find_spoilers(none, pool, goal)), [()])

    def test_the_edits_of_a_pick_are_done_in_the_order_of_the_pool(self):
        none = dealing_with(((1,), Sorts((), 1), 2), [])
        pool = [("copy", K, 0), ("strike", K, 0), ("fill", 0, 0)]
        self.assertEqual(list(find_mends(none, pool, ("right", ONE))), [(0,), (2,)])
        self.assertEqual(list(steady_picks(none, pool, ("right", ONE))), [(2,)])
        full = everywhere((1,), Sorts((), 1), 1)
        self.assertEqual(list(find_spoilers(full, pool, ("right", ONE))), [(1,)])
        self.assertEqual(list(find_mends(full, pool, ("right", ONE))), [()])
        self.assertEqual(list(find_mends(full, pool[1:2], ("right", ONE))), [()])
        self.assertEqual(list(steady_picks(full, pool[:1], ("right", ONE))), [()])

    def test_pools_of_six_and_equal_edits(self):
        none = dealing_with(((1,), Sorts((), 1), 2), [])
        pool = [("copy", K, 0)] * 6
        self.assertEqual(list(find_mends(none, pool, ("right", ONE))), [(at,) for at in range(6)])
        self.assertEqual(list(find_mends(none, pool, ("lost", 1, ONE))), [])
        six = [("copy", (0, (value,)), 0) for value in range(6)]
        empty = Dealing((1,), Sorts((), 6), 1, ())
        self.assertEqual(list(find_mends(empty, six, ("right", ONE))), [(0, 1, 2, 3, 4, 5)])
        self.assertEqual(list(find_spoilers(empty, six, ("room", 2))), list(itertools.combinations(range(6), 3)))
        self.assertEqual(list(steady_picks(empty, six, ("room", 6))), [()])

    def test_errors_in_their_order(self):
        full = everywhere((1,), Sorts((), 2), 2)
        for function in (find_mends, find_spoilers, steady_picks):
            for thing in NO_SEQUENCES + ((), [], [("copy", K, 0)] * 7):
                self.assertEqual(fault(BadEdits, function, full, thing, None), (0,))
            self.assertEqual(fault(BadEdits, function, full, [("copy", K, 0), ("copy", K, True)], None), (1,))
            self.assertEqual(fault(BadGoal, function, full, [("copy", K, 0)], None), ("goal",))
            self.assertEqual(fault(BadGoal, function, full, [("copy", K, 0)], ("both", ("right", EIGHT), ("room", -1))),
                             ("room",))
            self.assertEqual(fault(TooMany, function, full, [("copy", K, 0)], ("right", EIGHT)), (1000,))
            goal = ("both", ("room", 0), ("right", EIGHT))
            self.assertEqual(fault(TooMany, function, full, [("copy", K, 0)], goal), (1000,))

    def test_nothing_is_changed_or_kept(self):
        none = dealing_with(((1,), Sorts((), 1), 2), [])
        pool, goal = in_lists((("copy", K, 0), ("copy", K, 1))), in_lists(("right", ONE))
        self.assertEqual(list(find_mends(none, pool, goal)), [(0,), (1,)])
        self.assertEqual((pool, goal), (in_lists((("copy", K, 0), ("copy", K, 1))), in_lists(("right", ONE))))
        self.assertEqual(copies_of(none), ())
