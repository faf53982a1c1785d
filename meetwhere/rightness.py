"""Whether a dealing is right for unions, on all stores at once, and what shows it."""
from meetwhere.asking import answer_of, rows_of
from meetwhere.cases import all_cases, check_layings
from meetwhere.dealings import shared_lot
from meetwhere.leastness import is_least, kinds_of, least_cases
from meetwhere.questions import check_union, is_reading, union_values
from meetwhere.stores import check_store
from meetwhere.widths import is_same, is_whole


class Meets:
    """Hands at which the least cases of a union meet."""

    def __init__(self, rows):
        self.rows = rows

    def __eq__(self, other):
        return isinstance(other, Meets) and self.rows == other.rows


class Parted:
    """A least reading that meets at no hand, so that its answer is lost on its rows."""

    def __init__(self, index, reading, store, answer):
        self.index = index
        self.reading = reading
        self.store = store
        self.answer = answer

    def __eq__(self, other):
        return (isinstance(other, Parted) and self.index == other.index and self.reading == other.reading
                and self.store == other.store and self.answer == other.answer)


def lot_of_rows(dealing, rows):
    """Return the lot of the hands that hold all of what are known to be rows."""
    kinds = [dealing.sorts.kind_of(row) for row in rows]
    return shared_lot(dealing, kinds)


def meeting_hands(dealing, rows):
    """Return the lot of the hands that hold every row of a store."""
    return lot_of_rows(dealing, check_store(dealing.widths, rows))


def lot_of_reading(dealing, question, reading):
    """Return the lot of the hands at which a reading meets."""
    return shared_lot(dealing, kinds_of(question, reading, dealing.sorts))


def check_asked(union, dealing):
    """Return a union in tuples; refuse it if it has too many layings under the sorts of the dealing."""
    asked = check_union(dealing.widths, union)
    check_layings(asked, dealing.sorts, union_values(asked))
    return asked


def met_cases(union, dealing):
    """Yield each least case of a checked union: the index of its question, the case, the lot where it meets."""
    told = union_values(union)
    for index, case in least_cases(union, dealing.sorts, told):
        lot = lot_of_reading(dealing, union[index], case)
        yield (index, case, lot)


def _first_parted(union, dealing):
    """Return the first least case of a checked union that meets at no hand as a Parted, or None."""
    told = union_values(union)
    for index, question in enumerate(union):
        for case in all_cases(question, dealing.sorts, told):
            # Where it meets is seen faster than whether it is least.
            if not lot_of_reading(dealing, question, case) and is_least(union, index, case):
                return Parted(index, case, rows_of(question, case), answer_of(question, case))
    return None


def is_right(union, dealing):
    """Return whether a union is right under a dealing."""
    return _first_parted(check_asked(union, dealing), dealing) is None


def right_for_all(union, dealing):
    """Return the hands at which all least cases of a union meet, or the first one that meets at no hand."""
    asked = check_asked(union, dealing)
    parted = _first_parted(asked, dealing)
    if parted is not None:
        return parted
    return Meets(tuple([(index, case, lot[0]) for index, case, lot in met_cases(asked, dealing)]))


def _fault_of_row(row, cases, least):
    """Return the word for what is wrong with a row of a Meets, else None; least tells the lots of least cases."""
    index, case, hand = row
    # True stands for 1 where keys are looked up, so it is refused ahead of that.
    if not isinstance(case, tuple) or not all([is_whole(number) for number in (index,) + case]):
        return "case"
    if (index, case) not in cases:
        return "case"
    if (index, case) not in least:
        return "least"
    return None if is_whole(hand) and hand in least[(index, case)] else "hand"


def meets_fault(union, dealing, meets):
    """Return None if hands show that a union is right, else what is wrong with them."""
    asked = check_asked(union, dealing)
    told = union_values(asked)
    cases = {}
    for index, question in enumerate(asked):
        for case in all_cases(question, dealing.sorts, told):
            cases[(index, case)] = True
    least = {(index, case): lot for index, case, lot in met_cases(asked, dealing)}
    for row in meets.rows:
        what = _fault_of_row(row, cases, least)
        if what is not None:
            return what
    found = {(index, case): True for index, case, _ in meets.rows}
    return None if len(found) == len(least) else "lacking"


def claim_fault(question, claim):
    """Return the word for a reading, or what is told of it, that is not so, else None."""
    if not is_reading(question, claim.reading):
        return "reading"
    if not is_same(claim.store, rows_of(question, claim.reading)):
        return "store"
    return None if is_same(claim.answer, answer_of(question, claim.reading)) else "answer"


def parted_fault(union, dealing, parted):
    """Return None if a reading shows that a union is not right, else what is wrong with it."""
    asked = check_union(dealing.widths, union)
    if not is_whole(parted.index, 0, len(asked) - 1):
        return "reading"
    question = asked[parted.index]
    what = claim_fault(question, parted)
    if what is not None:
        return what
    if not is_least(asked, parted.index, parted.reading):
        return "least"
    return "meets" if lot_of_reading(dealing, question, parted.reading) else None


def all_right(unions, dealing):
    """Return the index of the first union that is not right under a dealing, or None."""
    asked = [check_union(dealing.widths, union) for union in unions]
    for index, union in enumerate(asked):
        if not is_right(union, dealing):
            return index
    return None


def rows_apart(union, dealing):
    """Return the couples of kinds that rows of a least case have and no hand holds both, ascending."""
    asked = check_asked(union, dealing)
    told = union_values(asked)
    couples = {}
    for index, case in least_cases(asked, dealing.sorts, told):
        kinds = kinds_of(asked[index], case, dealing.sorts)
        for place, first in enumerate(kinds):
            for second in kinds[place:]:
                couples[(first, second)] = True
    return tuple(sorted([couple for couple in couples if not shared_lot(dealing, couple)]))
