"""What sights tell of a dealing that is not known, and looks that find out whether it is right."""
from meetwhere.dealings import MOST_HANDS, Dealing, all_kinds, as_kind, check_together
from meetwhere.demands import demands_of, meets_needs, needs_of
from meetwhere.errors import BadHands, BadSeen, Clash, TooMany
from meetwhere.needless import check_copy
from meetwhere.rightness import is_right
from meetwhere.stores import MOST_ROWS, as_rows
from meetwhere.widths import check_widths, is_sequence_of, is_whole

MOST_SIGHTS = 20
MOST_HIDDEN = 10
MOST_TELLING = 7


def _as_sight(widths, hands, thing):
    """Return a thing of any kind as a sight with tuples, None if it is none."""
    if not is_sequence_of(thing, 3, 3) or not is_whole(thing[1], 0, hands - 1):
        return None
    store = as_rows(widths, thing[0], MOST_ROWS)
    rows = as_rows(widths, thing[2])
    if store is None or rows is None or not all([row in store for row in rows]):
        return None
    return (store, thing[1], rows)


def _check_sights(widths, hands, sights):
    """Return sights with tuples."""
    if not is_sequence_of(sights, 0, MOST_SIGHTS):
        raise BadSeen(0)
    checked = []
    for index, thing in enumerate(sights):
        sight = _as_sight(widths, hands, thing)
        if sight is None:
            raise BadSeen(index)
        checked.append(sight)
    return tuple(checked)


def _told_by(sorts, sights):
    """Return what sights tell of copies, as a dict: whether they are held."""
    told = {}
    for index, (store, hand, rows) in enumerate(sights):
        for row in store:
            is_dealt = row in rows
            if told.setdefault((sorts.kind_of(row), hand), is_dealt) != is_dealt:
                raise Clash(index)
    return told


class Seen:
    """What sights tell of a dealing: the copies that it surely holds, and those that it surely does not."""

    def __init__(self, widths, sorts, hands, sights=()):
        tables = check_widths(widths)
        if not is_whole(hands, 1, MOST_HANDS):
            raise BadHands(hands)
        checked = _check_sights(tables, hands, sights)
        told = _told_by(sorts, checked)
        self.widths = tables
        self.sorts = sorts
        self.hands = hands
        self.sights = checked
        self.found = tuple(sorted([copy for copy in told if told[copy]]))
        self.missing = tuple(sorted([copy for copy in told if not told[copy]]))

    def __eq__(self, other):
        return (isinstance(other, Seen) and self.widths == other.widths and self.sorts == other.sorts
                and self.hands == other.hands and self.sights == other.sights and self.found == other.found
                and self.missing == other.missing)

    def is_held(self, kind, hand):
        """Return whether the dealing holds a copy, None if that is hidden."""
        check_copy(self, kind, hand)
        copy = (as_kind(self.widths, self.sorts, kind), hand)
        if copy in self.found:
            return True
        return False if copy in self.missing else None

    def fits(self, dealing):
        """Return whether a dealing deals as the sights tell."""
        check_together(self, dealing)
        held = [hand in dealing.lot_at(kind) for kind, hand in self.found]
        return all(held) and not any([hand in dealing.lot_at(kind) for kind, hand in self.missing])

    def with_sight(self, store, hand, rows):
        """Return what is seen with one more sight."""
        return Seen(self.widths, self.sorts, self.hands, self.sights + ((store, hand, rows),))


def _dealing_with(seen, copies):
    """Return the dealing of the same widths, sorts and hands that has these copies."""
    return Dealing(seen.widths, seen.sorts, seen.hands, ()).with_copies(copies)


def _hidden(seen, kinds):
    """Return the hidden copies of kinds, in the order of the kinds."""
    told = {copy: True for copy in seen.found + seen.missing}
    return [(kind, hand) for kind in kinds for hand in range(seen.hands) if (kind, hand) not in told]


def poorest(seen):
    """Return the dealing that fits and holds none of the hidden copies."""
    return _dealing_with(seen, seen.found)


def richest(seen):
    """Return the dealing that fits and holds all hidden copies."""
    kinds = all_kinds(seen.widths, seen.sorts)
    return _dealing_with(seen, list(seen.found) + _hidden(seen, kinds))


def surely_right(union, seen):
    """Return whether a union is right under all dealings that fit."""
    return is_right(union, poorest(seen))


def surely_wrong(union, seen):
    """Return whether a union is right under none of the dealings that fit."""
    return not is_right(union, richest(seen))


def _rights_of(union, seen):
    """Return the hidden copies of needed kinds, ascending, and for each way to hold them whether it is right."""
    least = poorest(seen)
    demands = demands_of(union, least)
    kinds = sorted({kind for demand in demands for kind in demand})
    opened = _hidden(seen, kinds)
    if len(opened) > MOST_HIDDEN:
        raise TooMany(MOST_HIDDEN)
    needs = needs_of(least, demands, opened)
    return (opened, [meets_needs(needs, way) for way in range(1 << len(opened))])


def right_ways(union, seen):
    """Return how many ways to hold the hidden copies of needed kinds are right, and how many ways there are."""
    rights = _rights_of(union, seen)[1]
    return (rights.count(True), len(rights))


def _telling_places(rights):
    """Return the places of the copies that make the difference in some way."""
    places = range(len(rights).bit_length() - 1)
    return [place for place in places if any([rights[way | (1 << place)] != right for way, right in enumerate(rights)])]


def telling_copies(union, seen):
    """Return the hidden copies with which some dealing that fits is right and without which it is not, ascending."""
    opened, rights = _rights_of(union, seen)
    return tuple([opened[place] for place in _telling_places(rights)])


def _telling_rights(union, seen):
    """Return the telling copies, ascending, and for each way to hold them whether it is right."""
    opened, rights = _rights_of(union, seen)
    places = _telling_places(rights)
    if len(places) > MOST_TELLING:
        raise TooMany(MOST_TELLING)
    telling = sum([1 << place for place in places])
    # Whether the other copies are held makes no difference, so that each of them may be taken as not held.
    return ([opened[place] for place in places], [right for way, right in enumerate(rights) if way & telling == way])


def _looks_behind(rights, held, hidden, bit, known):
    """Return how many looks may be needed behind a look at the hidden copy with this bit."""
    left = hidden ^ bit
    return max(_looks_needed(rights, held | bit, left, known), _looks_needed(rights, held, left, known))


def _looks_needed(rights, held, hidden, known):
    """Return how many looks may be needed, where some copies are held and some hidden; known keeps what is known."""
    # More copies never make a dealing wrong.
    if rights[held] or not rights[held | hidden]:
        return 0
    if (held, hidden) not in known:
        bits = [1 << place for place in range(hidden.bit_length()) if hidden >> place & 1]
        known[(held, hidden)] = 1 + min([_looks_behind(rights, held, hidden, bit, known) for bit in bits])
    return known[(held, hidden)]


def fewest_looks(union, seen):
    """Return with how many looks, whatever they tell, it becomes sure whether the dealing is right."""
    rights = _telling_rights(union, seen)[1]
    return _looks_needed(rights, 0, len(rights) - 1, {})


def next_look(union, seen):
    """Return the first copy with which fewest looks may begin, or None if no look is needed."""
    copies, rights = _telling_rights(union, seen)
    known = {}
    hidden = len(rights) - 1
    needed = _looks_needed(rights, 0, hidden, known)
    for place, copy in enumerate(copies):
        if _looks_behind(rights, 0, hidden, 1 << place, known) < needed:
            return copy
    return None
