"""Plans, which ask in several rounds, and what they make and answer."""
from meetwhere.asking import answers
from meetwhere.dealings import Dealing
from meetwhere.dealt import laid_together, rows_at_hands
from meetwhere.errors import BadPlan, NoRound
from meetwhere.questions import check_union, head_length
from meetwhere.stores import check_store, is_couple
from meetwhere.widths import MOST_TABLES, check_widths, is_sequence_of, is_whole

MOST_ROUNDS = 3


def _check_round(thing, index, tables, earlier):
    """Return a round as a couple of a dealing and a union in tuples; earlier are the rounds ahead of it."""
    if not is_couple(thing) or not isinstance(thing[0], Dealing):
        raise BadPlan(index, "round")
    dealing = thing[0]
    if dealing.widths != tables:
        raise BadPlan(index, "widths")
    if earlier and dealing.sorts != earlier[0][0].sorts:
        raise BadPlan(index, "sorts")
    return (dealing, check_union(tables, thing[1]))


def _check_rounds(widths, rounds):
    """Return the rounds of a plan in tuples."""
    if not is_sequence_of(rounds, 1, MOST_ROUNDS):
        raise BadPlan(0, "many")
    last = len(rounds) - 1
    if len(widths) + last > MOST_TABLES:
        raise BadPlan(0, "tables")
    tables = widths
    checked = []
    for index, thing in enumerate(rounds):
        dealing, union = _check_round(thing, index, tables, checked)
        wide = head_length(union)
        if wide is None or (wide == 0 and index < last):
            raise BadPlan(index, "heads")
        tables = tables + (wide,)
        checked.append((dealing, union))
    return tuple(checked)


class Plan:
    """Rounds, each a couple of a dealing and a union; all but the last one make a table of their answers."""

    def __init__(self, widths, rounds):
        given = check_widths(widths)
        self.widths = given
        self.rounds = _check_rounds(given, rounds)

    @property
    def all_widths(self):
        """The widths of all tables, given and made."""
        return self.widths + tuple([head_length(union) for _, union in self.rounds[:-1]])

    def __len__(self):
        return len(self.rounds)

    def __iter__(self):
        return iter(self.rounds)

    def __eq__(self, other):
        return isinstance(other, Plan) and self.widths == other.widths and self.rounds == other.rounds


class PlanRun:
    """What a plan makes and answers on a store."""

    def __init__(self, made, answered):
        self.made = made
        self.answered = answered

    def __eq__(self, other):
        return isinstance(other, PlanRun) and self.made == other.made and self.answered == other.answered


def with_round(plan, index, dealing):
    """Return the plan with another dealing in one of its rounds."""
    if not is_whole(index, 0, len(plan) - 1):
        raise NoRound(index)
    union = plan.rounds[index][1]
    return Plan(plan.widths, plan.rounds[:index] + ((dealing, union),) + plan.rounds[index + 1:])


def _dealt_answers(dealing, union, rows):
    """Return what the hands answer together."""
    return laid_together(union, rows_at_hands(dealing, rows))


def _plain_answers(_, union, rows):
    """Return what is answered on all rows in one place."""
    return answers(union, rows)


def _run(plan, store, answers_in):
    """Return the PlanRun of a plan on a checked store whose rounds are answered by a function."""
    rows = store
    made = []
    answered = ()
    for index, (dealing, union) in enumerate(plan.rounds):
        answered = answers_in(dealing, union, rows)
        made.append(tuple([(len(plan.widths) + index, answer) for answer in answered]))
        rows = rows + made[index]
    return PlanRun(tuple(made[:-1]), answered)


def run_plan(plan, store):
    """Return what a plan makes and answers on a store, with rows and answers dealt in each round."""
    return _run(plan, check_store(plan.widths, store), _dealt_answers)


def plain_run(plan, store):
    """Return what a plan makes and answers on a store if each round is answered on all rows in one place."""
    return _run(plan, check_store(plan.widths, store), _plain_answers)


def rows_in_rounds(store, made):
    """Return for each round the rows that it deals, given and made so far, ascending."""
    rows = [store]
    for part in made:
        rows.append(rows[-1] + part)
    return rows


def sent_copies(plan, store):
    """Return for each round how many copies of rows lie at its hands."""
    given = check_store(plan.widths, store)
    rows = rows_in_rounds(given, run_plan(plan, given).made)
    return tuple([sum([len(dealing.lot_for(row)) for row in part]) for part, (dealing, _) in zip(rows, plan.rounds)])
