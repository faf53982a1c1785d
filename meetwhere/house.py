"""A house: a store that changes, and what a dealing that changes deals of it to the hands."""
from meetwhere.asking import answers
from meetwhere.dealings import as_kind, fault_of_copy
from meetwhere.dealt import answers_together, rows_at_hands
from meetwhere.errors import Full, NoHand, NoRow, NoStep, NothingLeft, StillTrial
from meetwhere.mends import goal_holds
from meetwhere.needless import copied, struck
from meetwhere.questions import check_union
from meetwhere.stores import MOST_ROWS, check_row, store_of
from meetwhere.widths import is_whole


class House:
    """A store and a dealing, with the deeds that changed them."""

    def __init__(self, dealing):
        self.dealing = dealing
        self.store = ()
        self.log = ()
        self.sent = 0
        # The dealing, the store and the number sent as they were ahead of each deed in the log.
        self._past = ()
        # How many deeds were in the log when the trial began that is going on, None outside of trials.
        self._begun = None

    def _do(self, deed, dealing, store, sent):
        """Do a deed behind which this is the dealing and this the store, and that sent so many rows."""
        self._past = self._past + ((self.dealing, self.store, self.sent),)
        self.dealing = dealing
        self.store = store
        self.log = self.log + (deed,)
        self.sent = self.sent + sent

    def put(self, row):
        """Add a row; return the lot to which it was sent."""
        known = check_row(self.dealing.widths, row)
        is_new = known not in self.store
        if is_new and len(self.store) >= MOST_ROWS:
            raise Full(MOST_ROWS)
        lot = self.dealing.lot_for(known) if is_new else ()
        self._do(("put", known), self.dealing, store_of(self.store + (known,)), len(lot))
        return lot

    def take(self, row):
        """Remove a row; return the lot that had it."""
        known = check_row(self.dealing.widths, row)
        if known not in self.store:
            raise NoRow(known)
        left = tuple([other for other in self.store if other != known])
        self._do(("take", known), self.dealing, left, 0)
        return self.dealing.lot_for(known)

    def _check_step(self, kind, hand, is_held):
        """Return a kind with tuples; refuse a step with a copy that is none, or is held or not as told."""
        what = fault_of_copy(self.dealing, kind, hand)
        if what is not None:
            raise NoStep(what)
        known = as_kind(self.dealing.widths, self.dealing.sorts, kind)
        if (hand in self.dealing.lot_at(known)) == is_held:
            raise NoStep("held")
        return known

    def _rows_of_kind(self, kind):
        """Return the rows of a kind."""
        return tuple([row for row in self.store if self.dealing.sorts.kind_of(row) == kind])

    def put_copy(self, kind, hand):
        """Give a kind to a hand; return the rows that were sent there."""
        known = self._check_step(kind, hand, True)
        rows = self._rows_of_kind(known)
        self._do(("copy", known, hand), copied(self.dealing, known, hand), self.store, len(rows))
        return rows

    def strike_copy(self, kind, hand):
        """Take a kind from a hand; return the rows that were removed there."""
        known = self._check_step(kind, hand, False)
        self._do(("strike", known, hand), struck(self.dealing, known, hand), self.store, 0)
        return self._rows_of_kind(known)

    def at_hand(self, hand):
        """Return the store that lies at a hand."""
        if not is_whole(hand, 0, self.dealing.hands - 1):
            raise NoHand(hand)
        return rows_at_hands(self.dealing, self.store)[hand]

    def ask(self, union):
        """Return what the hands answer together."""
        return answers_together(union, self.dealing, self.store)

    def lost_answers(self, union):
        """Return the answers of the store that no hand answers."""
        asked = check_union(self.dealing.widths, union)
        answered = {answer: True for answer in self.ask(asked)}
        return tuple([answer for answer in answers(asked, self.store) if answer not in answered])

    def holds(self, goal):
        """Return whether a goal holds for the dealing now."""
        return goal_holds(self.dealing, goal)

    def take_back(self, many=1):
        """Take back the last deeds, so many, and return them; those ahead of a trial stay within it."""
        begun = 0 if self._begun is None else self._begun
        if not is_whole(many, 1, len(self.log) - begun):
            raise NothingLeft(many)
        left = len(self.log) - many
        deeds = self.log[left:]
        self.dealing, self.store, self.sent = self._past[left]
        self._past = self._past[:left]
        self.log = self.log[:left]
        return deeds

    def trying(self, action):
        """Call a function with the house and return what it returns; afterwards all is as before."""
        if self._begun is not None:
            raise StillTrial(len(self.log))
        dealing, store, log, sent, past = self.dealing, self.store, self.log, self.sent, self._past
        self._begun = len(log)
        try:
            return action(self)
        finally:
            self.dealing, self.store, self.log, self.sent, self._past = dealing, store, log, sent, past
            self._begun = None
