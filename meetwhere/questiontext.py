"""Texts of questions and unions."""
from meetwhere.questions import NAMES, check_union
from meetwhere.storetext import check_text, is_only, read_filled, read_listed, read_number, read_word, row_text
from meetwhere.widths import check_widths


def question_text(question):
    """Return the text of a question."""
    head, body, unlike = question
    front = ", ".join([str(term) for term in head])
    atoms = ", ".join([row_text(atom) for atom in body])
    pairs = ", ".join([f"{left} not {right}" for left, right in unlike])
    behind = f" with {pairs}" if unlike else ""
    return f"({front}) by {atoms}{behind}"


def union_text(union):
    """Return the text of a union."""
    return " or ".join([question_text(question) for question in union]) if union else "nothing"


def _read_term(text, at):
    """Read a name or a value."""
    if text[at:at + 1] in NAMES:
        return text[at], at + 1
    return read_number(text, at)


def _read_head(text, at):
    """Read a head, which may be empty."""
    _, at = read_word(text, at, ("(",))
    if text[at:at + 1] == ")":
        return (), at + 1
    head, _, at = read_listed(text, at, _read_term, ", ", (")",))
    return head, at


def _read_atom(text, at):
    """Read an atom."""
    return read_filled(text, at, _read_term)


def _read_pair(text, at):
    """Read a pair."""
    left, at = _read_term(text, at)
    _, at = read_word(text, at, (" not ",))
    right, at = _read_term(text, at)
    return (left, right), at


def _read_question(text, at):
    """Read a question up to the next one or the end; return it, the word behind it and the place behind that."""
    head, at = _read_head(text, at)
    _, at = read_word(text, at, (" by ",))
    body, word, at = read_listed(text, at, _read_atom, ", ", (" with ", " or ", ""))
    unlike = ()
    if word == " with ":
        unlike, word, at = read_listed(text, at, _read_pair, ", ", (" or ", ""))
    return (head, body, unlike), word, at


def _read_questions(text):
    """Read questions up to the end of the text."""
    questions = []
    word = " or "
    at = 0
    while word:
        question, word, at = _read_question(text, at)
        questions.append(question)
    return questions


def read_union(widths, text):
    """Return the union of which this is the text."""
    tables = check_widths(widths)
    check_text(text)
    if is_only(text, "nothing"):
        return ()
    return check_union(tables, _read_questions(text))
