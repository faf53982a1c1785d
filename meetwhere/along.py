"""Stores, unions and questions with other values or other names."""
from meetwhere.errors import BadLetters, BadMoves
from meetwhere.questions import is_name, names_of
from meetwhere.stores import is_couple, is_value, store_of
from meetwhere.widths import is_sequence


def _is_move(thing):
    """Return whether a thing of any kind is a couple of values."""
    return is_couple(thing) and is_value(thing[0]) and is_value(thing[1])


def _check_moves(moves):
    """Return the moves as a dict from old values to new ones."""
    if not is_sequence(moves):
        raise BadMoves(0)
    new_of = {}
    for index, move in enumerate(moves):
        if not _is_move(move) or move[0] in new_of:
            raise BadMoves(index)
        new_of[move[0]] = move[1]
    if sorted(list(new_of)) != sorted(list(new_of.values())):
        raise BadMoves(len(moves))
    return new_of


def _moved(terms, new_of):
    """Return terms with new ones in the place of the old ones; others stay."""
    return tuple([new_of.get(term, term) for term in terms])


def renamed_store(store, moves):
    """Return a store with all values exchanged at once."""
    new_of = _check_moves(moves)
    return store_of([(table, _moved(values, new_of)) for table, values in store])


def moved_question(question, new_of):
    """Return a question with new terms in the place of the old ones, exchanged at once; others stay."""
    head, body, unlike = question
    atoms = tuple([(table, _moved(terms, new_of)) for table, terms in body])
    return (_moved(head, new_of), atoms, tuple([_moved(pair, new_of) for pair in unlike]))


def renamed_union(union, moves):
    """Return a union with all values exchanged at once."""
    new_of = _check_moves(moves)
    return tuple([moved_question(question, new_of) for question in union])


def _are_letters(thing, many):
    """Return whether a thing of any kind is a text of so many unlike names."""
    if not isinstance(thing, str) or len(thing) != many:
        return False
    return all([is_name(letter) for letter in thing]) and len(set(thing)) == many


def with_names(question, letters):
    """Return a question with the signs of a text in the place of its names, in the order of names_of."""
    names = names_of(question)
    if not _are_letters(letters, len(names)):
        raise BadLetters(letters)
    new_of = dict(zip(names, letters))
    return moved_question(question, new_of)
