"""Steps that lead from one dealing to another one, and orders of them in which nothing is ever lost."""
from meetwhere.dealings import as_copy, check_together
from meetwhere.demands import demands_of, meets_needs, needs_of
from meetwhere.edits import COPY_WORDS, as_edit, with_edits
from meetwhere.errors import BadCopies, BadStep, TooMany
from meetwhere.leastdealings import check_room
from meetwhere.needless import copies_of
from meetwhere.questions import check_union
from meetwhere.widths import is_sequence, is_sequence_of

MOST_TOUCHED = 9


class Broken:
    """The first moment that is not safe, and what it lacks."""

    def __init__(self, moment, what):
        self.moment = moment
        self.what = what

    def __eq__(self, other):
        return isinstance(other, Broken) and self.moment == other.moment and self.what == other.what


class NoOrder:
    """How many safe dealings can be reached where the one that is asked for cannot."""

    def __init__(self, reached):
        self.reached = reached

    def __eq__(self, other):
        return isinstance(other, NoOrder) and self.reached == other.reached


def _check_steps(dealing, steps):
    """Return steps that can be done one after another, with tuples."""
    if not is_sequence(steps):
        raise BadStep(0)
    held = {copy: True for copy in copies_of(dealing)}
    checked = []
    for index, thing in enumerate(steps):
        step = as_edit(dealing, thing)
        if step is None or step[0] not in COPY_WORDS:
            raise BadStep(index)
        puts_in = step[0] == "copy"
        if held.get(step[1:], False) == puts_in:
            raise BadStep(index)
        held[step[1:]] = puts_in
        checked.append(step)
    return tuple(checked)


def after_steps(dealing, steps):
    """Return the dealing behind steps, done one after another."""
    return with_edits(dealing, _check_steps(dealing, steps))


def _only_first(one, other):
    """Return the copies that only the first of two dealings holds, ascending."""
    return [(kind, hand) for kind, hand in copies_of(one) if hand not in other.lot_at(kind)]


def steps_between(one, other):
    """Return steps that lead from one dealing to another one: all that is put in, then all that is struck."""
    check_together(one, other)
    puts = [("copy",) + copy for copy in _only_first(other, one)]
    return tuple(puts + [("strike",) + copy for copy in _only_first(one, other)])


def _is_met(demand, hands, held):
    """Return whether one of so many hands holds all kinds of a demand; held tells which copies are held."""
    return any([all([held.get((kind, hand), False) for kind in demand]) for hand in range(hands)])


def _fault_of_moment(demands, held, numbers, room):
    """Return the word for what a moment lacks, else None; the numbers tell how many kinds each hand holds."""
    if not all([_is_met(demand, len(numbers), held) for demand in demands]):
        return "right"
    return None if room is None or max(numbers) <= room else "room"


def order_fault(union, dealing, steps, room=None):
    """Return the first moment of steps that is not safe, as a Broken, or None."""
    asked = check_union(dealing.widths, union)
    done = _check_steps(dealing, steps)
    check_room(room)
    demands = demands_of(asked, dealing)
    held = {copy: True for copy in copies_of(dealing)}
    numbers = [len(dealing.held(hand)) for hand in range(dealing.hands)]
    what = _fault_of_moment(demands, held, numbers, room)
    if what is not None:
        return Broken(0, what)
    for index, (word, kind, hand) in enumerate(done):
        held[(kind, hand)] = word == "copy"
        numbers[hand] = numbers[hand] + (1 if word == "copy" else -1)
        # All demands were met a moment ago, so only those with this kind can be unmet.
        touched = [demand for demand in demands if kind in demand]
        what = _fault_of_moment(touched, held, numbers, room)
        if what is not None:
            return Broken(index + 1, what)
    return None


def _check_spare(dealing, spare):
    """Return spare copies, held or not, with tuples."""
    if not is_sequence_of(spare, 0, MOST_TOUCHED):
        raise BadCopies(0)
    checked = []
    for index, thing in enumerate(spare):
        copy = as_copy(dealing, thing)
        if copy is None or copy in checked:
            raise BadCopies(index)
        checked.append(copy)
    return checked


def _way_of(dealing, copies):
    """Return the way in which a dealing holds open copies."""
    return sum([1 << place for place, (kind, hand) in enumerate(copies) if hand in dealing.lot_at(kind)])


def _most_held(beside, opened, way):
    """Return the greatest number of kinds that a hand holds in a way; beside tells those that are not open."""
    hands = [hand for place, (_, hand) in enumerate(opened) if way >> place & 1]
    return max([number + hands.count(hand) for hand, number in enumerate(beside)])


def _safe_ways(dealing, demands, opened, room):
    """Return for each way to hold open copies whether the dealing is safe then."""
    needs = needs_of(dealing, demands, opened)
    beside = [len([kind for kind in dealing.held(hand) if (kind, hand) not in opened]) for hand in range(dealing.hands)]
    safe = []
    for way in range(1 << len(opened)):
        within_room = room is None or _most_held(beside, opened, way) <= room
        safe.append(within_room and meets_needs(needs, way))
    return safe


def _reached_from(start, safe, many):
    """Return the safe ways that are reached through safe ones, in the order of their steps, each with the one ahead."""
    ahead = {start: None} if safe[start] else {}
    reached = list(ahead)
    at = 0
    while at < len(reached):
        for place in range(many):
            further = reached[at] ^ (1 << place)
            if safe[further] and further not in ahead:
                ahead[further] = reached[at]
                reached.append(further)
        at += 1
    return ahead


def _steps_to(goal, ahead, opened):
    """Return the steps that lead to a way that is reached."""
    steps = []
    way = goal
    while ahead[way] is not None:
        earlier = ahead[way]
        word = "copy" if way > earlier else "strike"
        changed = way ^ earlier
        steps.append((word,) + opened[changed.bit_length() - 1])
        way = earlier
    return tuple(steps[::-1])


def safe_order(union, one, other, room=None, spare=()):
    """Return fewest steps from one dealing to another one with all moments safe, or a NoOrder."""
    asked = check_union(one.widths, union)
    check_together(one, other)
    check_room(room)
    unlike = _only_first(one, other) + _only_first(other, one) + _check_spare(one, spare)
    opened = sorted(set(unlike))
    if len(opened) > MOST_TOUCHED:
        raise TooMany(MOST_TOUCHED)
    safe = _safe_ways(one, demands_of(asked, one), opened, room)
    ahead = _reached_from(_way_of(one, opened), safe, len(opened))
    goal = _way_of(other, opened)
    return _steps_to(goal, ahead, opened) if goal in ahead else NoOrder(len(ahead))
