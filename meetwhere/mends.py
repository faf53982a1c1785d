"""Goals for dealings, and which edits of a pool bring them about or spoil them."""
from meetwhere.cases import all_cases, check_layings
from meetwhere.dealings import shared_lot
from meetwhere.demands import demands_of
from meetwhere.edits import check_edits, with_edits
from meetwhere.errors import BadGoal, BadQuestion, BadUnion
from meetwhere.leastness import kinds_of
from meetwhere.losses import is_part
from meetwhere.needless import widest_hand
from meetwhere.questions import check_question, check_union, question_values, union_values
from meetwhere.widths import check_widths, is_sequence, is_whole

LENGTHS = {"right": 2, "counted": 2, "lost": 3, "room": 2, "both": 3}
MOST_LOST = 7


def _word_of(goal):
    """Return the word of a goal; refuse a thing that is no sequence with one of these words and of its length."""
    if not is_sequence(goal) or len(goal) == 0 or not isinstance(goal[0], str):
        raise BadGoal("goal")
    word = goal[0]
    if word not in LENGTHS or LENGTHS[word] != len(goal):
        raise BadGoal("goal")
    return word


def _checked_union(widths, union):
    """Return the union of a goal in tuples."""
    try:
        return check_union(widths, union)
    except (BadUnion, BadQuestion):
        raise BadGoal("union") from None


def _checked_question(widths, question):
    """Return the question of a goal in tuples."""
    try:
        return check_question(widths, question)
    except BadQuestion:
        raise BadGoal("question") from None


def _check_part(widths, goal):
    """Return a goal that is not "both" with tuples."""
    word = _word_of(goal)
    if word == "right":
        return (word, _checked_union(widths, goal[1]))
    if word == "counted":
        return (word, _checked_question(widths, goal[1]))
    if word == "lost":
        if not is_whole(goal[1], 0, MOST_LOST):
            raise BadGoal("lost")
        return (word, goal[1], _checked_union(widths, goal[2]))
    if word == "room" and not is_whole(goal[1], 0):
        raise BadGoal("room")
    if word == "both":
        raise BadGoal("goal")
    return (word, goal[1])


def check_goal(widths, goal):
    """Return a goal with tuples."""
    tables = check_widths(widths)
    if _word_of(goal) != "both":
        return _check_part(tables, goal)
    return ("both", _check_part(tables, goal[1]), _check_part(tables, goal[2]))


def _union_of(part):
    """Return the union that a part of a goal asks, its question as a union of one."""
    if part[0] == "room":
        return ()
    return (part[1],) if part[0] == "counted" else part[-1]


def _sets_of(dealing, part):
    """Return the unlike sets of kinds that a part of a goal looks at under dealings like this one."""
    if part[0] != "counted":
        return demands_of(_union_of(part), dealing)
    question = part[1]
    told = question_values(question)
    sorts = dealing.sorts
    return list({kinds_of(question, case, sorts): True for case in all_cases(question, sorts, told)})


def _asked_by(dealing, goal):
    """Return the parts of a checked goal, each with the sets of kinds that it looks at."""
    parts = goal[1:] if goal[0] == "both" else (goal,)
    for part in parts:
        union = _union_of(part)
        check_layings(union, dealing.sorts, union_values(union))
    return [(part, _sets_of(dealing, part)) for part in parts]


def _part_holds(dealing, part, sets):
    """Return whether a part of a goal holds for a dealing."""
    if part[0] == "room":
        return widest_hand(dealing)[1] <= part[1]
    numbers = [len(shared_lot(dealing, kinds)) for kinds in sets]
    if part[0] == "counted":
        return all([number == 1 for number in numbers])
    lost = part[1] if part[0] == "lost" else 0
    return all([number > lost for number in numbers])


def _holds(dealing, asked):
    """Return whether all parts of a goal hold for a dealing."""
    return all([_part_holds(dealing, part, sets) for part, sets in asked])


def goal_holds(dealing, goal):
    """Return whether a goal holds for a dealing."""
    return _holds(dealing, _asked_by(dealing, check_goal(dealing.widths, goal)))


def _all_picks(many):
    """Return all picks of a pool with so many edits, by their length, then ascending."""
    picks = [tuple([place for place in range(many) if bits >> place & 1]) for bits in range(1 << many)]
    return [pick for _, pick in sorted([(len(pick), pick) for pick in picks])]


def _outcomes(dealing, pool, goal):
    """Return for each pick of a pool, in their order, whether the goal holds after it."""
    edits = check_edits(dealing, pool)
    asked = _asked_by(dealing, check_goal(dealing.widths, goal))
    picks = _all_picks(len(edits))
    return {pick: _holds(with_edits(dealing, [edits[place] for place in pick]), asked) for pick in picks}


def _least_of(picks):
    """Return those of the picks of which no other one of them is a part, in their order."""
    return [pick for pick in picks if not [other for other in picks if other != pick and is_part(other, pick)]]


def find_mends(dealing, pool, goal):
    """Yield the least picks after which a goal holds."""
    outcomes = _outcomes(dealing, pool, goal)
    mending = [pick for pick in outcomes if outcomes[pick]]
    for pick in _least_of(mending):
        yield pick


def find_spoilers(dealing, pool, goal):
    """Yield the least picks after which a goal does not hold."""
    outcomes = _outcomes(dealing, pool, goal)
    spoiling = [pick for pick in outcomes if not outcomes[pick]]
    for pick in _least_of(spoiling):
        yield pick


def steady_picks(dealing, pool, goal):
    """Yield the least picks such that a goal holds after each pick that has all their entries."""
    outcomes = _outcomes(dealing, pool, goal)
    steady = [pick for pick in outcomes if all([outcomes[other] for other in outcomes if is_part(pick, other)])]
    for pick in _least_of(steady):
        yield pick
