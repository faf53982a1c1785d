"""Copies of kinds at hands, and which of them demands do not need."""
from meetwhere.dealings import as_kind, fault_of_copy, shared_lot
from meetwhere.demands import check_demands
from meetwhere.errors import BadCopy, NotHeld, NotRight
from meetwhere.widths import is_whole


class Breaking:
    """Fewest copies that leave a demand unmet if they are struck."""

    def __init__(self, copies, demand):
        self.copies = copies
        self.demand = demand

    def __eq__(self, other):
        return isinstance(other, Breaking) and self.copies == other.copies and self.demand == other.demand


def copies_of(dealing):
    """Return all copies of a dealing, ascending."""
    return tuple([(kind, hand) for kind, lot in dealing.rule for hand in lot])


def check_copy(dealing, kind, hand):
    """Refuse things that are no kind and hand of a dealing."""
    what = fault_of_copy(dealing, kind, hand)
    if what is not None:
        raise BadCopy(what)


def struck(dealing, kind, hand):
    """Return the dealing without a copy."""
    known = as_kind(dealing.widths, dealing.sorts, kind)
    if known is None or not is_whole(hand) or hand not in dealing.lot_at(known):
        raise NotHeld(kind, hand)
    return dealing.with_lot(known, [other for other in dealing.lot_at(known) if other != hand])


def copied(dealing, kind, hand):
    """Return the dealing with a copy put in."""
    check_copy(dealing, kind, hand)
    others = [other for other in dealing.lot_of(kind) if other != hand]
    return dealing.with_lot(kind, others + [hand])


def widest_hand(dealing):
    """Return the first hand that holds the most kinds, with the number of these."""
    numbers = [len(dealing.held(hand)) for hand in range(dealing.hands)]
    most = max(numbers)
    return (numbers.index(most), most)


def met_demands(dealing, tidy):
    """Return tidy demands, each with the lot that holds it whole; refuse a dealing that leaves one unmet."""
    met = []
    for demand in tidy:
        lot = shared_lot(dealing, demand)
        if not lot:
            raise NotRight(demand)
        met.append((demand, lot))
    return met


def needed_copies(met):
    """Return a dict of the copies without which some demand is unmet; met tells the demands with their lots."""
    return {(kind, lot[0]): True for demand, lot in met if len(lot) == 1 for kind in demand}


def needless_copies(dealing, demands):
    """Return the copies that may each be struck alone, ascending."""
    needed = needed_copies(met_demands(dealing, check_demands(dealing, demands)))
    return tuple([copy for copy in copies_of(dealing) if copy not in needed])


def unneeded_copies(dealing, demands):
    """Return the copies whose kind is in no demand, ascending."""
    asked = {kind: True for demand in check_demands(dealing, demands) for kind in demand}
    return tuple([copy for copy in copies_of(dealing) if copy[0] not in asked])


def fewest_struck(dealing, demands):
    """Return fewest copies without which a demand is unmet, as a Breaking, or None if there are no demands."""
    met = met_demands(dealing, check_demands(dealing, demands))
    if not met:
        return None
    least = min([len(lot) for _, lot in met])
    demand, lot = [couple for couple in met if len(couple[1]) == least][0]
    return Breaking(tuple([(demand[0], hand) for hand in lot]), demand)
