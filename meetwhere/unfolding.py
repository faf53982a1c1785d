"""The plain meaning of a plan: a union over the given tables that has the answers of the plan's plain run.

While a question is made from others, its names are texts like "2a": the name "a" of the question with the number 2.
So no name of one question is a name of another one, and none is one of the names "a" to "h".
"""
from meetwhere.along import moved_question
from meetwhere.errors import NoPlainAnswer, TooMany
from meetwhere.plans import Plan
from meetwhere.questions import MOST_ATOMS, MOST_PAIRS, MOST_QUESTIONS, NAMES, names_of
from meetwhere.stores import is_value

MOST_CHOICES = 4096


def _all_choices(options):
    """Return all ways to choose one of each of the options; the first choice varies slowest."""
    many = 1
    for option in options:
        many = many * len(option)
    if many > MOST_CHOICES:
        raise TooMany(MOST_CHOICES)
    # Where one option is empty, the others together may have far too many choices.
    found = [()] if many > 0 else []
    for option in options:
        found = [front + (question,) for front in found for question in option]
    return found


def _marked(question, number):
    """Return a question whose names bear a number."""
    return moved_question(question, {name: f"{number}{name}" for name in names_of(question)})


def _end_of(term, leads):
    """Return the term at the end of what a term leads to."""
    while term in leads:
        term = leads[term]
    return term


def _made_one(couples):
    """Return what terms become where the two of each couple become one term, None if two values would."""
    leads = {}
    for couple in couples:
        one, other = [_end_of(term, leads) for term in couple]
        if one == other:
            continue
        if is_value(one) and is_value(other):
            return None
        if is_value(one):
            leads[other] = one
        else:
            leads[one] = other
    return {term: _end_of(term, leads) for term in leads}


def _joined(question, chosen, given):
    """Return a question with the body of a chosen one in the place of each atom behind the given tables.

    The terms of such an atom become one with the head of its chosen question; None is returned if they cannot.
    """
    head, body, pairs = _marked(question, 0)
    atoms = []
    couples = []
    at = 0
    for table, terms in body:
        if table < given:
            atoms.append((table, terms))
            continue
        other_head, other_body, other_pairs = _marked(chosen[at], at + 1)
        couples.extend([(one, other) for one, other in zip(terms, other_head)])
        atoms.extend(other_body)
        pairs = pairs + other_pairs
        at += 1
    new_of = _made_one(couples)
    return None if new_of is None else moved_question((head, tuple(atoms), pairs), new_of)


def _unlike_pairs(pairs):
    """Return pairs, each once and none of two values, or None if one of them can never be kept."""
    kept = {}
    for one, other in pairs:
        if one == other:
            return None
        if not (is_value(one) and is_value(other)) and (other, one) not in kept:
            kept[(one, other)] = True
    return tuple(list(kept))


def _named(question):
    """Return a question with the names "a", "b" and so on; refuse it if it is too large to be one."""
    marks = list({term: True for _, terms in question[1] for term in terms if not is_value(term)})
    if len(question[1]) > MOST_ATOMS or len(marks) > len(NAMES) or len(question[2]) > MOST_PAIRS:
        raise TooMany(MOST_ATOMS)
    return moved_question(question, dict(zip(marks, NAMES)))


def _unfolded_choice(question, chosen, given):
    """Return the question over the given tables that a choice gives, None if the choice falls away."""
    joined = _joined(question, chosen, given)
    pairs = None if joined is None else _unlike_pairs(joined[2])
    if pairs is None:
        return None
    atoms = tuple(list({atom: True for atom in joined[1]}))
    return _named((joined[0], atoms, pairs))


def _unfolded_round(union, given, made):
    """Return the unfolded union of a round; made are those of the rounds ahead of it."""
    found = []
    for question in union:
        options = [made[table - given] for table, _ in question[1] if table >= given]
        for chosen in _all_choices(options):
            plain_question = _unfolded_choice(question, chosen, given)
            if plain_question is None or plain_question in found:
                continue
            if len(found) == MOST_QUESTIONS:
                raise TooMany(MOST_QUESTIONS)
            found.append(plain_question)
    return tuple(found)


def unfolded(plan):
    """Return the plain meaning of a plan."""
    given = len(plan.widths)
    made = []
    for _, union in plan.rounds:
        made.append(_unfolded_round(union, given, made))
    return made[-1]


def one_round(plan):
    """Return the plan of one round that asks the plain meaning of a plan by its first dealing."""
    union = unfolded(plan)
    if not union:
        raise NoPlainAnswer(plan)
    return Plan(plan.widths, [(plan.rounds[0][0], union)])
