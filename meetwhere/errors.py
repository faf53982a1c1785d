"""All errors of the package, each directly under DealError."""

# A sequence of unions is six deep down to its terms; deeper lists are none of the things asked for,
# and a list may even hold itself.
DEEPEST = 6


def _in_tuples(thing, depth):
    """Return a thing with tuples in the place of lists, for a list that is kept might change later."""
    if depth == 0 or not isinstance(thing, (list, tuple)):
        return thing
    return tuple([_in_tuples(item, depth - 1) for item in thing])


def _kept(thing):
    """Return what an error may keep of a thing that was passed in."""
    return _in_tuples(thing, DEEPEST)


class DealError(ValueError):
    """What every error of the package stands under."""

    def __init__(self, message=""):
        ValueError.__init__(self, message)


class BadWidths(DealError):
    def __init__(self, index):
        DealError.__init__(self, "the widths are wrong")
        self.index = index


class BadRow(DealError):
    def __init__(self, what):
        DealError.__init__(self, "this is no row")
        self.what = what


class BadStore(DealError):
    def __init__(self, index, what):
        DealError.__init__(self, "this is no store")
        self.index = index
        self.what = what


class BadQuestion(DealError):
    def __init__(self, what, index):
        DealError.__init__(self, "this is no question")
        self.what = what
        self.index = index


class BadUnion(DealError):
    def __init__(self, what, index):
        DealError.__init__(self, "this is no union")
        self.what = what
        self.index = index


class BadReading(DealError):
    def __init__(self, reading):
        DealError.__init__(self, "this is no reading of the question")
        self.reading = _kept(reading)


class BadMoves(DealError):
    def __init__(self, index):
        DealError.__init__(self, "the moves are wrong")
        self.index = index


class BadLetters(DealError):
    def __init__(self, letters):
        DealError.__init__(self, "the letters do not serve as names")
        self.letters = _kept(letters)


class BadText(DealError):
    def __init__(self, place):
        DealError.__init__(self, "the text does not have the form")
        self.place = place


class BadSorts(DealError):
    def __init__(self, what):
        DealError.__init__(self, "the sorts are wrong")
        self.what = what


class BadValue(DealError):
    def __init__(self, value):
        DealError.__init__(self, "this is no value")
        self.value = _kept(value)


class NoSort(DealError):
    def __init__(self, number):
        DealError.__init__(self, "there is no sort of this number")
        self.number = _kept(number)


class BadTold(DealError):
    def __init__(self, told):
        DealError.__init__(self, "the told values are wrong")
        self.told = _kept(told)


class TooMany(DealError):
    def __init__(self, most):
        DealError.__init__(self, "there are too many")
        self.most = _kept(most)


class NoAnswer(DealError):
    def __init__(self, answer):
        DealError.__init__(self, "this is no answer of the union on the store")
        self.answer = _kept(answer)


class BadDealing(DealError):
    def __init__(self, what, index):
        DealError.__init__(self, "the dealing is wrong")
        self.what = what
        self.index = index


class NoKind(DealError):
    def __init__(self, kind):
        DealError.__init__(self, "this is no kind")
        self.kind = _kept(kind)


class NoHand(DealError):
    def __init__(self, hand):
        DealError.__init__(self, "there is no hand of this number")
        self.hand = _kept(hand)


class BadLost(DealError):
    def __init__(self, index):
        DealError.__init__(self, "the lost hands are wrong")
        self.index = index


class BadOrder(DealError):
    def __init__(self, order):
        DealError.__init__(self, "this is no order of all hands")
        self.order = _kept(order)


class Apart(DealError):
    def __init__(self, what):
        DealError.__init__(self, "the two dealings do not go together")
        self.what = what


class BadFactor(DealError):
    def __init__(self, factor):
        DealError.__init__(self, "the factor is wrong")
        self.factor = _kept(factor)


class BadNamed(DealError):
    def __init__(self, value):
        DealError.__init__(self, "the value cannot be named")
        self.value = _kept(value)


class BadDemands(DealError):
    def __init__(self, index, what):
        DealError.__init__(self, "the demands are wrong")
        self.index = index
        self.what = what


class NotHeld(DealError):
    def __init__(self, kind, hand):
        DealError.__init__(self, "the hand does not hold the kind")
        self.kind = _kept(kind)
        self.hand = _kept(hand)


class BadCopy(DealError):
    def __init__(self, what):
        DealError.__init__(self, "this is no copy")
        self.what = what


class NotRight(DealError):
    def __init__(self, demand):
        DealError.__init__(self, "the dealing leaves a demand unmet")
        self.demand = _kept(demand)


class BadRoom(DealError):
    def __init__(self, room):
        DealError.__init__(self, "the room is wrong")
        self.room = _kept(room)


class BadPlan(DealError):
    def __init__(self, index, what):
        DealError.__init__(self, "the plan is wrong")
        self.index = index
        self.what = what


class NoRound(DealError):
    def __init__(self, index):
        DealError.__init__(self, "there is no round of this number")
        self.index = _kept(index)


class NoPlainAnswer(DealError):
    def __init__(self, plan):
        DealError.__init__(self, "the plan never answers")
        self.plan = _kept(plan)


class BadUnions(DealError):
    def __init__(self, unions):
        DealError.__init__(self, "the unions are wrong")
        self.unions = _kept(unions)


class EmptyRows(DealError):
    def __init__(self, rows):
        DealError.__init__(self, "there are no rows")
        self.rows = _kept(rows)


class BadShares(DealError):
    def __init__(self, index, what):
        DealError.__init__(self, "the shares are wrong")
        self.index = index
        self.what = what


class BadMost(DealError):
    def __init__(self, most):
        DealError.__init__(self, "the bound is wrong")
        self.most = _kept(most)


class BadStep(DealError):
    def __init__(self, index):
        DealError.__init__(self, "the step is wrong")
        self.index = index


class BadCopies(DealError):
    def __init__(self, index):
        DealError.__init__(self, "the copies are wrong")
        self.index = index


class BadHands(DealError):
    def __init__(self, hands):
        DealError.__init__(self, "the number of hands is wrong")
        self.hands = _kept(hands)


class BadSeen(DealError):
    def __init__(self, index):
        DealError.__init__(self, "the sights are wrong")
        self.index = index


class Clash(DealError):
    def __init__(self, index):
        DealError.__init__(self, "the sights do not go together")
        self.index = index


class BadEdits(DealError):
    def __init__(self, index):
        DealError.__init__(self, "the edits are wrong")
        self.index = index


class BadGoal(DealError):
    def __init__(self, what):
        DealError.__init__(self, "the goal is wrong")
        self.what = what


class NoStep(DealError):
    def __init__(self, what):
        DealError.__init__(self, "the step cannot be done")
        self.what = what


class Full(DealError):
    def __init__(self, most):
        DealError.__init__(self, "the house is full")
        self.most = _kept(most)


class NoRow(DealError):
    def __init__(self, row):
        DealError.__init__(self, "the house does not hold the row")
        self.row = _kept(row)


class NothingLeft(DealError):
    def __init__(self, number):
        DealError.__init__(self, "there is less to take back")
        self.number = _kept(number)


class StillTrial(DealError):
    def __init__(self, deeds):
        DealError.__init__(self, "a trial is still going on")
        self.deeds = _kept(deeds)
