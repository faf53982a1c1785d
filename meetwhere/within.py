"""Unions whose answers are always answers of other unions, and the least forms of questions."""
from meetwhere.asking import answer_of, is_answered, rows_of
from meetwhere.cases import all_cases, check_layings
from meetwhere.questions import check_question, check_union, is_reading, names_of, unlike_names, union_values
from meetwhere.sorts import Sorts
from meetwhere.widths import check_widths, is_whole


class Outside:
    """A reading whose answer another union does not have on the reading's rows."""

    def __init__(self, index, reading):
        self.index = index
        self.reading = reading

    def __eq__(self, other):
        return isinstance(other, Outside) and self.index == other.index and self.reading == other.reading


def _checked(widths, union, other):
    """Return two unions in tuples."""
    tables = check_widths(widths)
    return (check_union(tables, union), check_union(tables, other))


def _is_shared(question, reading, other):
    """Return whether the other union has the answer of a reading on the reading's rows."""
    return is_answered(other, rows_of(question, reading), answer_of(question, reading))


def _first_outside(union, other, told):
    """Return the first case of a union whose answer the other one does not have on its rows, or None."""
    plain = Sorts((), 1)
    for index, question in enumerate(union):
        for case in all_cases(question, plain, told):
            if not _is_shared(question, case, other):
                return Outside(index, case)
    return None


def is_within(widths, union, other):
    """Return None if a union lies within another one, else the first case that shows that it does not."""
    inner, outer = _checked(widths, union, other)
    told = union_values(inner + outer)
    check_layings(inner, Sorts((), 1), told)
    return _first_outside(inner, outer, told)


def outside_fault(widths, union, other, outside):
    """Return None if a reading shows that a union does not lie within another one, else what is wrong with it."""
    inner, outer = _checked(widths, union, other)
    if not is_whole(outside.index, 0, len(inner) - 1):
        return "reading"
    question = inner[outside.index]
    if not is_reading(question, outside.reading):
        return "reading"
    return "within" if _is_shared(question, outside.reading, outer) else None


def are_alike(widths, union, other):
    """Return whether each of two unions lies within the other one."""
    one, two = _checked(widths, union, other)
    told = union_values(one + two)
    check_layings(one + two, Sorts((), 1), told)
    return _first_outside(one, two, told) is None and _first_outside(two, one, told) is None


def _without_atom(question, at):
    """Return a question without one of its atoms, None if no question is left."""
    head, body, unlike = question
    shorter = (head, body[:at] + body[at + 1:], unlike)
    names = names_of(shorter)
    kept = unlike_names(list(head) + [term for pair in unlike for term in pair])
    return shorter if len(body) > 1 and all([name in names for name in kept]) else None


def least_form(widths, question):
    """Return a question without the atoms that it does not need."""
    tables = check_widths(widths)
    left = check_question(tables, question)
    told = union_values((left,))
    check_layings((left,), Sorts((), 1), told)
    many = len(left[1])
    for at in reversed(range(many)):
        shorter = _without_atom(left, at)
        # Without an atom a question loses no answers, so only new ones can make it unlike.
        if shorter is not None and _first_outside((shorter,), (left,), told) is None:
            left = shorter
    return left
