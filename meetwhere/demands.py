"""Demands: sets of kinds that must lie whole at one hand.

Some copies of a dealing may be *open*: held or not. A *way* to hold open copies is a number: bit k tells whether the
open copy in place k is held. The copies that are not open are held as the dealing tells.
"""
from meetwhere.dealings import as_kind, shared_lot
from meetwhere.errors import BadDemands, TooMany
from meetwhere.leastness import kinds_of, least_cases
from meetwhere.questions import union_values
from meetwhere.rightness import check_asked
from meetwhere.widths import is_sequence_of

MOST_DEMANDS = 6000
MOST_KINDS = 60
MOST_WAYS = 4096
# Sets of demands are kept as the bits of numbers, and numbers are kept short.
BLOCK = 2000


class Carry:
    """A dealing that meets all of some demands, and another demand that it does not meet."""

    def __init__(self, dealing, demand):
        self.dealing = dealing
        self.demand = demand

    def __eq__(self, other):
        return isinstance(other, Carry) and self.dealing == other.dealing and self.demand == other.demand


def _check_demand(dealing, demand, index):
    """Return a demand as an ascending tuple of unlike kinds."""
    if not is_sequence_of(demand, 1, MOST_KINDS):
        raise BadDemands(index, "demand")
    kinds = [as_kind(dealing.widths, dealing.sorts, kind) for kind in demand]
    if None in kinds:
        raise BadDemands(index, "kind")
    return tuple(sorted(set(kinds)))


def _holding_bits(block):
    """Return for each kind a number whose bits tell which demands of a block hold it."""
    bits = {}
    for place, demand in enumerate(block):
        for kind in demand:
            bits[kind] = bits.get(kind, 0) | (1 << place)
    return bits


def _is_in_another(demand, blocks):
    """Return whether the kinds of a demand stand in another demand, too; the blocks hold it as well."""
    many = 0
    for bits in blocks:
        left = -1
        for kind in demand:
            left = left & bits.get(kind, 0)
        while left and many < 2:
            left = left & (left - 1)
            many += 1
    return many > 1


def _tidied(demands):
    """Return unlike demands, ascending, without those whose kinds are a proper part of another one's."""
    blocks = [_holding_bits(demands[at:at + BLOCK]) for at in range(0, len(demands), BLOCK)]
    return tuple([demand for demand in demands if not _is_in_another(demand, blocks)])


def check_demands(dealing, demands):
    """Return the tidy demands."""
    if not is_sequence_of(demands, 0, MOST_DEMANDS):
        raise BadDemands(0, "many")
    checked = [_check_demand(dealing, demand, index) for index, demand in enumerate(demands)]
    return _tidied(sorted(set(checked)))


def demands_of(union, dealing):
    """Return the tidy demands of a union: the kinds of each least case."""
    asked = check_asked(union, dealing)
    told = union_values(asked)
    sorts = dealing.sorts
    found = [kinds_of(asked[index], case, sorts) for index, case in least_cases(asked, sorts, told)]
    return _tidied(sorted(set(found)))


def unmet_demand(dealing, demands):
    """Return the first tidy demand that no hand holds whole, or None."""
    for demand in check_demands(dealing, demands):
        if not shared_lot(dealing, demand):
            return demand
    return None


def places_of_kinds(demands):
    """Return a dict with each kind that stands in demands and the places of these, ascending."""
    places = {}
    for place, demand in enumerate(demands):
        for kind in demand:
            places.setdefault(kind, []).append(place)
    return places


def _hanging_with(kind, demands, places, seen):
    """Return the kinds that hang together with a kind, with itself; they are put among those seen."""
    seen[kind] = True
    cluster = [kind]
    asked = {}
    at = 0
    while at < len(cluster):
        for place in places[cluster[at]]:
            # A demand brings its kinds once, whichever of them leads to it.
            new = [other for other in demands[place] if other not in seen] if place not in asked else []
            asked[place] = True
            for other in new:
                seen[other] = True
                cluster.append(other)
        at += 1
    return tuple(sorted(cluster))


def clusters(dealing, demands):
    """Return the greatest sets of kinds of demands that hang together, ascending."""
    tidy = check_demands(dealing, demands)
    places = places_of_kinds(tidy)
    seen = {}
    found = []
    for kind in places:
        if kind not in seen:
            found.append(_hanging_with(kind, tidy, places, seen))
    return tuple(sorted(found))


def check_ways(numbers):
    """Refuse numbers, all from 1 on, whose product is too great."""
    ways = 1
    for number in numbers:
        ways = ways * number
        if ways > MOST_WAYS:
            raise TooMany(MOST_WAYS)


def _longer(reached, holders):
    """Return what is reached with one more kind; each item tells which demands hold all of its kinds."""
    found = {}
    for held in reached:
        for other in holders:
            left = tuple([place for place in held if place in other])
            found.setdefault(left, reached[held] + (holders[other],))
    return found


def _held_by_none(kinds, places, most):
    """Return at most so many of the kinds, with at least one, that no demand holds all, or None if there are none."""
    for kind in kinds:
        if kind not in places:
            return (kind,)
    if most == 1:
        return None
    holders = {tuple(places[kind]): kind for kind in kinds}
    reached = {held: (holders[held],) for held in holders}
    for _ in range(most - 1):
        if () not in reached:
            reached = _longer(reached, holders)
    return reached.get(())


def _laid_apart(dealing, demands, kinds):
    """Return the dealing that lays each demand at the first hand whose kind, of those told, it does not hold."""
    copies = []
    for demand in demands:
        hand = min([place for place, kind in enumerate(kinds) if kind not in demand])
        copies.extend([(kind, hand) for kind in demand])
    return dealing.with_copies(copies)


def carries(dealing, demands, others):
    """Return None if all dealings that meet the demands meet the others, else a Carry that shows that not all do."""
    tidy = check_demands(dealing, demands)
    wanted = check_demands(dealing, others)
    check_ways([dealing.hands] * len(tidy))
    places = places_of_kinds(tidy)
    # A demand can be unmet where the others are met exactly if some of its kinds, no more than there are hands,
    # lie together in no other demand: then every demand can be laid at a hand that lacks one of these kinds.
    for demand in wanted:
        kinds = _held_by_none(demand, places, dealing.hands)
        if kinds is not None:
            return Carry(_laid_apart(dealing, tidy, kinds), demand)
    return None


def _least_way(dealing, demand, hand, places):
    """Return the way in which a hand holds a demand with no open copy too many, None if there is no such way."""
    way = 0
    for kind in demand:
        if (kind, hand) in places:
            way = way | (1 << places[(kind, hand)])
        elif hand not in dealing.lot_at(kind):
            return None
    return way


def needs_of(dealing, demands, opened):
    """Return for each demand that is not always met the ways that meet it; the list names the open copies."""
    places = {copy: place for place, copy in enumerate(opened)}
    needs = {}
    for demand in demands:
        ways = [_least_way(dealing, demand, hand, places) for hand in range(dealing.hands)]
        if 0 not in ways:
            needs[tuple([way for way in ways if way is not None])] = True
    return list(needs)


def meets_needs(needs, way):
    """Return whether a way, with all that is held in it, meets all demands."""
    return all([any([least & way == least for least in ways]) for ways in needs])
