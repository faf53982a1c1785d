"""Kinds of rows, lots of hands, and dealings, which give each kind a lot."""
from meetwhere.errors import Apart, BadDealing, BadLost, BadOrder, NoHand, NoKind
from meetwhere.sorts import Sorts
from meetwhere.stores import check_row, fault_of_place, is_couple
from meetwhere.widths import check_widths, is_sequence, is_whole

MOST_HANDS = 8


def _filled_with(width, things):
    """Return all tuples of so many of the things, in the order of the things."""
    found = [()]
    for _ in range(width):
        found = [front + (thing,) for front in found for thing in things]
    return found


def rows_over(widths, things):
    """Return all rows that have these things alone in their columns; ascending if the things are."""
    return [(table, values) for table, width in enumerate(widths) for values in _filled_with(width, things)]


def count_rows_over(widths, many):
    """Return the number of rows that have so many things alone in their columns."""
    total = 0
    for width in widths:
        rows = 1
        for _ in range(width):
            rows = rows * many
        total = total + rows
    return total


def all_kinds(widths, sorts):
    """Return all kinds of widths and sorts, ascending."""
    return tuple(rows_over(check_widths(widths), list(range(sorts.many))))


def count_kinds(widths, sorts):
    """Return the number of kinds of widths and sorts."""
    return count_rows_over(check_widths(widths), sorts.many)


def as_kind(widths, sorts, thing):
    """Return a thing of any kind as a kind with tuples, None if it is no kind."""
    if fault_of_place(widths, thing) is not None:
        return None
    last = sorts.many - 1
    if not all([is_whole(sort, 0, last) for sort in thing[1]]):
        return None
    return (thing[0], tuple(thing[1]))


def as_lot(hands, thing):
    """Return a thing of any kind as a lot of so many hands, None if it is no sequence of unlike hands."""
    if not is_sequence(thing) or not all([is_whole(hand, 0, hands - 1) for hand in thing]):
        return None
    return tuple(sorted(thing)) if len(set(thing)) == len(thing) else None


def check_kind(dealing, kind):
    """Return a kind of a dealing with tuples."""
    known = as_kind(dealing.widths, dealing.sorts, kind)
    if known is None:
        raise NoKind(kind)
    return known


def fault_of_copy(dealing, kind, hand):
    """Return the word for what of things of any kind is no kind or no hand of a dealing, else None."""
    if as_kind(dealing.widths, dealing.sorts, kind) is None:
        return "kind"
    return None if is_whole(hand, 0, dealing.hands - 1) else "hand"


def as_copy(dealing, thing):
    """Return a thing of any kind as a copy with tuples, held or not; None if it is no kind and hand of a dealing."""
    if not is_couple(thing) or fault_of_copy(dealing, thing[0], thing[1]) is not None:
        return None
    return (check_kind(dealing, thing[0]), thing[1])


def check_lost(dealing, lost):
    """Return lost hands of a dealing as a lot."""
    if not is_sequence(lost):
        raise BadLost(0)
    known = {}
    for index, hand in enumerate(lost):
        if not is_whole(hand, 0, dealing.hands - 1) or hand in known:
            raise BadLost(index)
        known[hand] = True
    return tuple(sorted(list(known)))


def _check_frame(widths, sorts, hands):
    """Return the widths as a tuple; refuse them, sorts or a number of hands that no dealing has."""
    tables = check_widths(widths)
    if not isinstance(sorts, Sorts):
        raise BadDealing("sorts", 0)
    if not is_whole(hands, 1, MOST_HANDS):
        raise BadDealing("hands", 0)
    return tables


def _check_rule(widths, sorts, hands, rule):
    """Return a rule as a dict from kinds to lots."""
    if not is_sequence(rule):
        raise BadDealing("rule", 0)
    lots = {}
    for index, couple in enumerate(rule):
        kind = as_kind(widths, sorts, couple[0]) if is_couple(couple) else None
        if kind is None or kind in lots:
            raise BadDealing("kind", index)
        lot = as_lot(hands, couple[1])
        if lot is None:
            raise BadDealing("lot", index)
        lots[kind] = lot
    return lots


def check_together(one, other):
    """Refuse two dealings, or things dealt like these, that are not over the same widths, sorts and hands."""
    if one.widths != other.widths:
        raise Apart("widths")
    if one.sorts != other.sorts:
        raise Apart("sorts")
    if one.hands != other.hands:
        raise Apart("hands")


class Dealing:
    """What gives each kind of rows a lot of hands."""

    def __init__(self, widths, sorts, hands, rule):
        tables = _check_frame(widths, sorts, hands)
        lots = _check_rule(tables, sorts, hands, rule)
        self.widths = tables
        self.sorts = sorts
        self.hands = hands
        self.rule = tuple(sorted([(kind, lots[kind]) for kind in lots if lots[kind]]))
        self._lots = {kind: lot for kind, lot in self.rule}

    def __call__(self, row):
        """Return the lot of a row."""
        return self.lot_for(check_row(self.widths, row))

    def __iter__(self):
        return iter(self._lots)

    def __contains__(self, thing):
        return as_kind(self.widths, self.sorts, thing) in self._lots

    def __eq__(self, other):
        return (isinstance(other, Dealing) and self.widths == other.widths and self.sorts == other.sorts
                and self.hands == other.hands and self.rule == other.rule)

    def __or__(self, other):
        check_together(self, other)
        kinds = sorted({kind for kind, _ in self.rule + other.rule})
        rule = [(kind, tuple(sorted(set(self.lot_at(kind) + other.lot_at(kind))))) for kind in kinds]
        return Dealing(self.widths, self.sorts, self.hands, rule)

    def __and__(self, other):
        check_together(self, other)
        rule = [(kind, tuple([hand for hand in lot if hand in other.lot_at(kind)])) for kind, lot in self.rule]
        return Dealing(self.widths, self.sorts, self.hands, rule)

    def includes(self, other):
        """Return whether this dealing gives each row to all hands to which the other one gives it."""
        check_together(self, other)
        return all([hand in self.lot_at(kind) for kind, lot in other.rule for hand in lot])

    def lot_at(self, kind):
        """Return the lot of what is known to be a kind."""
        return self._lots.get(kind, ())

    def lot_for(self, row):
        """Return the lot of what is known to be a row."""
        return self.lot_at(self.sorts.kind_of(row))

    def lot_of(self, kind):
        """Return the lot of a kind."""
        return self.lot_at(check_kind(self, kind))

    def held(self, hand):
        """Return the kinds that a hand holds, ascending."""
        if not is_whole(hand, 0, self.hands - 1):
            raise NoHand(hand)
        return tuple([kind for kind, lot in self.rule if hand in lot])

    def with_rule(self, rule):
        """Return the dealing over the same widths, sorts and hands that has another rule."""
        return Dealing(self.widths, self.sorts, self.hands, rule)

    def with_copies(self, copies):
        """Return the dealing that has just these copies; a copy may stand there twice."""
        lots = {}
        for kind, hand in copies:
            lots.setdefault(kind, {})[hand] = True
        return self.with_rule([(kind, list(lots[kind])) for kind in lots])

    def with_lot(self, kind, lot):
        """Return the dealing that gives one kind another lot."""
        known = check_kind(self, kind)
        hands = as_lot(self.hands, lot)
        if hands is None:
            raise BadDealing("lot", 0)
        others = [couple for couple in self.rule if couple[0] != known]
        return self.with_rule(others + [(known, hands)])

    def without(self, lost):
        """Return the dealing in which the lost hands hold nothing."""
        gone = check_lost(self, lost)
        return self.with_rule([(kind, [hand for hand in lot if hand not in gone]) for kind, lot in self.rule])


def dealing_by(widths, sorts, hands, choose):
    """Return the dealing that gives each kind the lot that a function chooses for it."""
    tables = _check_frame(widths, sorts, hands)
    rule = []
    for index, kind in enumerate(all_kinds(tables, sorts)):
        # The function may change later what it returns, so the lot is taken at once.
        lot = as_lot(hands, choose(kind))
        if lot is None:
            raise BadDealing("lot", index)
        rule.append((kind, lot))
    return Dealing(tables, sorts, hands, rule)


def everywhere(widths, sorts, hands):
    """Return the dealing that gives each kind to all hands."""
    tables = _check_frame(widths, sorts, hands)
    lot = list(range(hands))
    return Dealing(tables, sorts, hands, [(kind, lot) for kind in all_kinds(tables, sorts)])


def renumbered(dealing, order):
    """Return the dealing in which hand h is called order[h]."""
    hands = as_lot(dealing.hands, order)
    if hands is None or len(hands) < dealing.hands:
        raise BadOrder(order)
    return dealing.with_rule([(kind, [order[hand] for hand in lot]) for kind, lot in dealing.rule])


def shared_lot(dealing, kinds):
    """Return the lot of the hands that hold all of what are known to be kinds."""
    lot = tuple(range(dealing.hands))
    for kind in kinds:
        held = dealing.lot_at(kind)
        lot = tuple([hand for hand in lot if hand in held])
    return lot
