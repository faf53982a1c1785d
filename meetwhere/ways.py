"""Ways in which open copies, those that may be held or not, can be held.

A *way* is a number: bit k tells whether the open copy in place k is held. The copies that are not open are held as
a dealing tells.
"""


def _lacking(dealing, demand, hand, places):
    """Return the way in which a hand holds a demand with no open copy too many, None if there is no such way."""
    way = 0
    for kind in demand:
        if (kind, hand) in places:
            way = way | (1 << places[(kind, hand)])
        elif hand not in dealing.lot_at(kind):
            return None
    return way


def needs_of(dealing, demands, opened):
    """Return for each demand that is not always met the ways that meet it; the list names the open copies."""
    places = {copy: place for place, copy in enumerate(opened)}
    needs = {}
    for demand in demands:
        ways = [_lacking(dealing, demand, hand, places) for hand in range(dealing.hands)]
        if 0 not in ways:
            needs[tuple([way for way in ways if way is not None])] = True
    return list(needs)


def meets_needs(needs, way):
    """Return whether a way, with all that is held in it, meets all demands."""
    return all([any([least & way == least for least in ways]) for ways in needs])
