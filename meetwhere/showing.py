"""Fewest copies that show whether a dealing is right."""
from meetwhere.dealings import as_copy
from meetwhere.demands import demands_of, unmet_demand
from meetwhere.leastdealings import fewest_within
from meetwhere.needless import copies_of
from meetwhere.widths import is_sequence


class Showing:
    """Whether a dealing is right, and copies that show it."""

    def __init__(self, right, copies):
        self.right = right
        self.copies = copies

    def __eq__(self, other):
        return isinstance(other, Showing) and self.right == other.right and self.copies == other.copies


def _lacking(dealing, demand):
    """Return for each hand the copy of the first kind of an unmet demand that it does not hold."""
    found = []
    for hand in range(dealing.hands):
        found.append([(kind, hand) for kind in demand if hand not in dealing.lot_at(kind)][0])
    return tuple(sorted(found))


def least_showing(union, dealing):
    """Return whether a dealing is right, with fewest copies that show it."""
    demands = demands_of(union, dealing)
    unmet = unmet_demand(dealing, demands)
    if unmet is not None:
        return Showing(False, _lacking(dealing, unmet))
    return Showing(True, copies_of(fewest_within(dealing, demands).dealing))


def _as_copies(dealing, thing):
    """Return a thing of any kind as a list of unlike copies, held or not; None if it is none."""
    if not is_sequence(thing):
        return None
    copies = [as_copy(dealing, copy) for copy in thing]
    return None if None in copies or len(set(copies)) < len(copies) else copies


def _shows_wrong(hands, demands, copies):
    """Return whether no dealing without these copies is right: some demand needs one of them at every hand."""
    barred = {copy: True for copy in copies}
    for demand in demands:
        if all([any([(kind, hand) in barred for kind in demand]) for hand in range(hands)]):
            return True
    return False


def showing_fault(union, dealing, showing):
    """Return None if a showing is right, else what is wrong with it."""
    demands = demands_of(union, dealing)
    is_met = unmet_demand(dealing, demands) is None
    fewest = fewest_within(dealing, demands).number if is_met else dealing.hands
    if not isinstance(showing.right, bool) or showing.right != is_met:
        return "right"
    copies = _as_copies(dealing, showing.copies)
    if copies is None:
        return "copies"
    if not all([(hand in dealing.lot_at(kind)) == is_met for kind, hand in copies]):
        return "held"
    if is_met:
        enough = unmet_demand(dealing.with_copies(copies), demands) is None
    else:
        enough = _shows_wrong(dealing.hands, demands, copies)
    if not enough:
        return "enough"
    return "fewest" if len(copies) > fewest else None
