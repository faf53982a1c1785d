"""How many hands, and which, may be lost before anything is lost."""
from meetwhere.rightness import check_asked, met_cases


def _unlike_lots(union, dealing):
    """Return the unlike lots at which least cases of a union meet."""
    asked = check_asked(union, dealing)
    lots = {}
    for _, _, lot in met_cases(asked, dealing):
        lots[lot] = True
    return list(lots)


def most_lost(union, dealing):
    """Return how many hands may be lost, whichever: -1 if the union is not right, None if it has no least case."""
    lots = _unlike_lots(union, dealing)
    return min([len(lot) for lot in lots]) - 1 if lots else None


def is_part(lot, other):
    """Return whether all hands of a lot, or all indices of a pick, stand in another one."""
    return all([hand in other for hand in lot])


def losing_lots(union, dealing):
    """Return the least lots of hands without which the union is not right, by their length, then ascending."""
    lots = _unlike_lots(union, dealing)
    losing = [lot for lot in lots if not [other for other in lots if other != lot and is_part(other, lot)]]
    return tuple([lot for _, lot in sorted([(len(lot), lot) for lot in losing])])
