"""Names, terms, questions, unions, and what becomes of them where the names get values."""
from meetwhere.errors import BadQuestion, BadReading, BadUnion
from meetwhere.stores import are_values, fault_of_place, is_couple, is_value
from meetwhere.widths import check_widths, is_sequence, is_sequence_of

NAMES = ("a", "b", "c", "d", "e", "f", "g", "h")
MOST_HEAD = 3
MOST_ATOMS = 8
MOST_PAIRS = 8
MOST_QUESTIONS = 6


def is_name(thing):
    """Return whether a thing of any kind is a name."""
    return isinstance(thing, str) and thing in NAMES


def is_term(thing):
    """Return whether a thing of any kind is a term."""
    return is_name(thing) or is_value(thing)


def _fault_of_atom(widths, atom):
    """Return the word for a thing that is no atom, else None."""
    what = fault_of_place(widths, atom)
    if what == "row":
        return "atom"
    if what is None and not all([is_term(term) for term in atom[1]]):
        return "term"
    return what


def _check_body(widths, body):
    """Return the body of a question in tuples."""
    if not is_sequence_of(body, 1, MOST_ATOMS):
        raise BadQuestion("body", 0)
    for index, atom in enumerate(body):
        what = _fault_of_atom(widths, atom)
        if what is not None:
            raise BadQuestion(what, index)
    return tuple([(table, tuple(terms)) for table, terms in body])


def _is_told(thing, names):
    """Return whether a thing of any kind is a value or one of the names."""
    return is_value(thing) or (is_name(thing) and thing in names)


def _check_head(head, names):
    """Return the head of a question as a tuple."""
    if not is_sequence_of(head, 0, MOST_HEAD):
        raise BadQuestion("head", 0)
    for index, term in enumerate(head):
        if not _is_told(term, names):
            raise BadQuestion("head", index)
    return tuple(head)


def _check_pairs(pairs, names):
    """Return the pairs of a question in tuples."""
    if not is_sequence_of(pairs, 0, MOST_PAIRS):
        raise BadQuestion("unlike", 0)
    for index, pair in enumerate(pairs):
        if not is_couple(pair) or not all([_is_told(term, names) for term in pair]):
            raise BadQuestion("unlike", index)
    return tuple([tuple(pair) for pair in pairs])


def check_question(widths, question):
    """Return a question in tuples through and through."""
    tables = check_widths(widths)
    if not is_sequence_of(question, 3, 3):
        raise BadQuestion("form", 0)
    body = _check_body(tables, question[1])
    names = names_of(((), body, ()))
    return (_check_head(question[0], names), body, _check_pairs(question[2], names))


def check_union(widths, union):
    """Return a union in tuples through and through."""
    tables = check_widths(widths)
    if not is_sequence_of(union, 0, MOST_QUESTIONS):
        raise BadUnion("many", 0)
    checked = tuple([check_question(tables, question) for question in union])
    for index, question in enumerate(checked):
        if len(question[0]) != head_length(checked):
            raise BadUnion("heads", index)
    return checked


def unlike_names(terms):
    """Return the names among terms, each once, in the order in which they first come."""
    return tuple(list({term: True for term in terms if is_name(term)}))


def names_of(question):
    """Return the names of a question in the order in which they first come in the body."""
    return unlike_names([term for atom in question[1] for term in atom[1]])


def question_values(question):
    """Return the unlike values among all terms of a question, ascending."""
    return union_values((question,))


def _terms_of(question):
    """Return all terms of a question, each as often as it stands there."""
    head, body, unlike = question
    inner = [term for atom in body for term in atom[1]]
    return list(head) + inner + [term for pair in unlike for term in pair]


def union_values(union):
    """Return the unlike values among all terms of a union, ascending."""
    return tuple(sorted({term for question in union for term in _terms_of(question) if not is_name(term)}))


def head_length(union):
    """Return the length of the heads of a union, None for the empty one."""
    return len(union[0][0]) if union else None


def keeps_pairs(question, reading):
    """Return whether values for the names of a question give no pair one value twice."""
    names = names_of(question)
    pairs = [filled(pair, names, reading) for pair in question[2]]
    return all([left != right for left, right in pairs])


def is_reading(question, thing):
    """Return whether a thing of any kind is a tuple that is a reading of the question."""
    return are_values(thing) and len(thing) == len(names_of(question)) and keeps_pairs(question, thing)


def as_reading(question, thing):
    """Return a thing of any kind as a reading of the question, None if it is none."""
    reading = tuple(thing) if is_sequence(thing) else None
    return reading if is_reading(question, reading) else None


def check_reading(question, reading):
    """Return a reading of a question as a tuple."""
    known = as_reading(question, reading)
    if known is None:
        raise BadReading(reading)
    return known


def filled(terms, names, reading):
    """Return the terms with the values of a reading in the place of the names."""
    given = dict(zip(names, reading))
    return tuple([given.get(term, term) for term in terms])
