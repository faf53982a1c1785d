"""Least dealings within a dealing: those that meet all demands and have no needless copy.

A *ground* is what the least dealings within a dealing share: its *fixed* copies, those of the demands that just one
hand holds whole, and the other demands, which leave a choice. The kinds of the latter have places; a *state* tells,
hand by hand, what it holds of them: a number whose bit k tells the kind in place k. Copies of all other kinds are
fixed, or in no least dealing.
"""
from meetwhere.demands import check_demands, check_ways, places_of_kinds
from meetwhere.errors import BadRoom
from meetwhere.needless import copies_of, met_demands, needed_copies
from meetwhere.widths import is_whole


class Standings:
    """The copies that are in all least dealings, in some of them, and in none."""

    def __init__(self, fixed, free, idle):
        self.fixed = fixed
        self.free = free
        self.idle = idle

    def __eq__(self, other):
        return (isinstance(other, Standings) and self.fixed == other.fixed and self.free == other.free
                and self.idle == other.idle)


class Fewest:
    """The least number of copies, and a dealing that has so many."""

    def __init__(self, number, dealing):
        self.number = number
        self.dealing = dealing

    def __eq__(self, other):
        return isinstance(other, Fewest) and self.number == other.number and self.dealing == other.dealing


class NoRoom:
    """The least room for which there is a dealing."""

    def __init__(self, needed):
        self.needed = needed

    def __eq__(self, other):
        return isinstance(other, NoRoom) and self.needed == other.needed


class Ground:
    """What the least dealings within a dealing share."""

    def __init__(self, dealing, tidy):
        met = met_demands(dealing, tidy)
        check_ways([len(lot) for _, lot in met])
        chosen = [(demand, lot) for demand, lot in met if len(lot) > 1]
        kinds = sorted({kind for demand, _ in chosen for kind in demand})
        bits = {kind: 1 << place for place, kind in enumerate(kinds)}
        self.dealing = dealing
        self.fixed = needed_copies(met)
        self.kinds = kinds
        self.choices = [(sum([bits[kind] for kind in demand]), lot) for demand, lot in chosen]
        self.first = self._held_first(bits)
        self.beside = self._numbers_beside(bits)

    def _held_first(self, bits):
        """Return the state that has the fixed copies alone."""
        held = [0 for _ in range(self.dealing.hands)]
        for kind, hand in self.fixed:
            held[hand] = held[hand] | bits.get(kind, 0)
        return tuple(held)

    def _numbers_beside(self, bits):
        """Return for each hand the number of fixed copies that states do not tell."""
        hands = [hand for kind, hand in self.fixed if kind not in bits]
        return [hands.count(hand) for hand in range(self.dealing.hands)]


def _holding(state, bits, lot):
    """Return those hands of a lot that hold all kinds of a demand, told by its bits."""
    return [hand for hand in lot if state[hand] & bits == bits]


def _with_demand(state, bits, hand):
    """Return the state in which a hand holds a demand, too."""
    return state[:hand] + (state[hand] | bits,) + state[hand + 1:]


def _is_least(ground, state):
    """Return whether a state that meets all demands has no needless copy."""
    needed = ground.first
    for bits, lot in ground.choices:
        holding = _holding(state, bits, lot)
        if len(holding) == 1:
            needed = _with_demand(needed, bits, holding[0])
    return needed == state


def _with_choice(states, bits, lot):
    """Return the states, each once, to which these lead where one more demand must be met."""
    further = {}
    for state in states:
        # Where a demand is met already, what else meets it would be needless, or comes with other demands.
        if _holding(state, bits, lot):
            further[state] = True
        else:
            for hand in lot:
                further[_with_demand(state, bits, hand)] = True
    return list(further)


def _least_states(ground):
    """Return the states of all least dealings, each once."""
    states = [ground.first]
    for bits, lot in ground.choices:
        states = _with_choice(states, bits, lot)
    return [state for state in states if _is_least(ground, state)]


def _marks(ground, state):
    """Return the copies of a state, ascending, each as the place of its kind times the hands, plus the hand."""
    hands = len(state)
    found = []
    for place in range(len(ground.kinds)):
        found.extend([place * hands + hand for hand, bits in enumerate(state) if bits >> place & 1])
    return tuple(found)


def _dealing_of(ground, marks):
    """Return the least dealing whose state has these copies."""
    hands = ground.dealing.hands
    copies = [(ground.kinds[mark // hands], mark % hands) for mark in marks]
    return ground.dealing.with_copies(list(ground.fixed) + copies)


def _count_bits(bits):
    """Return how many kinds a number tells."""
    figures = f"{bits:b}"
    return figures.count("1")


def _numbers(ground, state):
    """Return for each hand the number of kinds that it holds in the least dealing of a state."""
    return [more + _count_bits(bits) for more, bits in zip(ground.beside, state)]


def least_under(dealing, demands):
    """Return the least dealing that is left if one copy after another is struck where it is needless."""
    met = met_demands(dealing, check_demands(dealing, demands))
    places = places_of_kinds([demand for demand, _ in met])
    holding = [list(lot) for _, lot in met]
    left = []
    for kind, lot in dealing.rule:
        asking = places.get(kind, [])
        for hand in reversed(lot):
            if [place for place in asking if holding[place] == [hand]]:
                left.append((kind, hand))
                continue
            for place in asking:
                holding[place] = [other for other in holding[place] if other != hand]
    return dealing.with_copies(left)


def least_dealings(dealing, demands):
    """Yield all least dealings within a dealing, ascending by their copies."""
    ground = Ground(dealing, check_demands(dealing, demands))
    # The copies that all of them have make no difference to their order.
    for marks in sorted([_marks(ground, state) for state in _least_states(ground)]):
        yield _dealing_of(ground, marks)


def copy_standings(dealing, demands):
    """Return which copies are in all least dealings, in some, and in none."""
    ground = Ground(dealing, check_demands(dealing, demands))
    used = {}
    for state in _least_states(ground):
        for mark in _marks(ground, state):
            used[(ground.kinds[mark // dealing.hands], mark % dealing.hands)] = True
    copies = copies_of(dealing)
    fixed = tuple([copy for copy in copies if copy in ground.fixed])
    free = tuple([copy for copy in copies if copy in used and copy not in ground.fixed])
    return Standings(fixed, free, tuple([copy for copy in copies if copy not in used and copy not in ground.fixed]))


def check_room(room):
    """Refuse a thing that is no room."""
    if room is not None and not is_whole(room, 0):
        raise BadRoom(room)


def _sized_states(ground):
    """Return the states of all least dealings, each behind its room and its number of copies, by these."""
    numbers = [(_numbers(ground, state), state) for state in _least_states(ground)]
    return sorted([(max(held), sum(held), state) for held, state in numbers])


def fewest_within(dealing, demands, *, room=None):
    """Return the least number of copies, within the room, with a dealing; or the room that is needed."""
    tidy = check_demands(dealing, demands)
    check_room(room)
    ground = Ground(dealing, tidy)
    sized = _sized_states(ground)
    fitting = [(number, state) for needed, number, state in sized if room is None or needed <= room]
    if not fitting:
        return NoRoom(sized[0][0])
    number, state = min(fitting)
    return Fewest(number, _dealing_of(ground, _marks(ground, state)))


def least_room(dealing, demands):
    """Return the least room for which some dealing within a dealing meets all demands."""
    return _sized_states(Ground(dealing, check_demands(dealing, demands)))[0][0]


def room_table(dealing, demands):
    """Return each room at which fewer copies are enough than at lesser ones, with their number, ascending."""
    table = []
    for needed, number, _ in _sized_states(Ground(dealing, check_demands(dealing, demands))):
        if not table or number < table[-1][1]:
            table.append((needed, number))
    return tuple(table)
