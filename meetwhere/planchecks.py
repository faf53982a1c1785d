"""Whether plans are right for all stores, and whether one plan lies within another one."""
from meetwhere.asking import answer_of, rows_of
from meetwhere.cases import all_cases, check_layings
from meetwhere.errors import Apart, NoRound
from meetwhere.leastness import is_least
from meetwhere.plans import run_plan
from meetwhere.questions import union_values
from meetwhere.rightness import right_for_all
from meetwhere.unfolding import unfolded
from meetwhere.widths import is_whole


class PlanParted:
    """A least case of the plain meaning of a plan on whose rows the plan does not give the answer."""

    def __init__(self, index, case, store, answer):
        self.index = index
        self.case = case
        self.store = store
        self.answer = answer

    def __eq__(self, other):
        return (isinstance(other, PlanParted) and self.index == other.index and self.case == other.case
                and self.store == other.store and self.answer == other.answer)


class PlanOutside:
    """A case of the plain meaning of a plan whose answer the plan gives on its rows and another plan does not."""

    def __init__(self, index, case, store, answer):
        self.index = index
        self.case = case
        self.store = store
        self.answer = answer

    def __eq__(self, other):
        return (isinstance(other, PlanOutside) and self.index == other.index and self.case == other.case
                and self.store == other.store and self.answer == other.answer)


def _questions_of(plan):
    """Return the questions of all rounds of a plan."""
    return [question for _, union in plan.rounds for question in union]


def _sorts_of(plan):
    """Return the sorts of the rounds of a plan."""
    return plan.rounds[0][0].sorts


def _gives(plan, store, answer):
    """Return whether a plan gives an answer on a store."""
    return answer in run_plan(plan, store).answered


def _told_cases(union, sorts, told):
    """Yield each case of a union: the index of its question, the case, its rows, its answer."""
    for index, question in enumerate(union):
        for case in all_cases(question, sorts, told):
            rows = rows_of(question, case)
            answer = answer_of(question, case)
            yield (index, case, rows, answer)


def plan_values(plan):
    """Return the unlike values in the unions of all rounds of a plan, ascending."""
    return union_values(_questions_of(plan))


def plan_right(plan):
    """Return None if a plan is right for all stores, else the first least case whose answer it lacks."""
    union = unfolded(plan)
    sorts = _sorts_of(plan)
    told = plan_values(plan)
    check_layings(union, sorts, told)
    for index, case, rows, answer in _told_cases(union, sorts, told):
        # What the plan gives is often seen faster than whether the case is least.
        if not _gives(plan, rows, answer) and is_least(union, index, case):
            return PlanParted(index, case, rows, answer)
    return None


def round_right(plan, index):
    """Return what right_for_all returns for one round, with made tables taken for tables that may have any rows."""
    if not is_whole(index, 0, len(plan) - 1):
        raise NoRound(index)
    dealing, union = plan.rounds[index]
    return right_for_all(union, dealing)


def _told_of_both(plan, other):
    """Return the values of two plans, ascending; refuse plans that cannot be compared."""
    if plan.widths != other.widths:
        raise Apart("widths")
    if _sorts_of(plan) != _sorts_of(other):
        raise Apart("sorts")
    return union_values(_questions_of(plan) + _questions_of(other))


def _first_outside(plan, union, other, told):
    """Return the first case of the unfolded union of a plan that shows that it is not within another one, or None."""
    sorts = _sorts_of(plan)
    for index, case, rows, answer in _told_cases(union, sorts, told):
        if _gives(plan, rows, answer) and not _gives(other, rows, answer):
            return PlanOutside(index, case, rows, answer)
    return None


def plan_within(plan, other):
    """Return None if a plan lies within another one, else the first case that shows that it does not."""
    told = _told_of_both(plan, other)
    union = unfolded(plan)
    check_layings(union, _sorts_of(plan), told)
    return _first_outside(plan, union, other, told)


def plans_alike(plan, other):
    """Return whether each of two plans lies within the other one."""
    told = _told_of_both(plan, other)
    one, two = unfolded(plan), unfolded(other)
    check_layings(one + two, _sorts_of(plan), told)
    return _first_outside(plan, one, other, told) is None and _first_outside(other, two, plan, told) is None
