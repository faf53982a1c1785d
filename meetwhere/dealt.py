"""What lies at the hands of a dealing, and what they answer and count."""
from meetwhere.asking import answers, counted
from meetwhere.dealings import check_lost
from meetwhere.questions import check_question, check_union
from meetwhere.stores import check_store


def rows_at_hands(dealing, rows):
    """Return for each hand those of the rows that it holds; any number of rows in ascending order is let."""
    held = [[] for _ in range(dealing.hands)]
    for row in rows:
        for hand in dealing.lot_for(row):
            held[hand].append(row)
    return tuple([tuple(part) for part in held])


def laid_together(union, stores):
    """Return all answers of a union on any of the stores, ascending."""
    # Hands often hold the very same rows, and those are asked once.
    unlike = list({store: True for store in stores})
    return tuple(sorted({answer for store in unlike for answer in answers(union, store)}))


def dealt_stores(dealing, store):
    """Return for each hand the store of the rows that it holds."""
    return rows_at_hands(dealing, check_store(dealing.widths, store))


def undealt(dealing, store):
    """Return the store of the rows that no hand holds."""
    return tuple([row for row in check_store(dealing.widths, store) if not dealing.lot_for(row)])


def _asked(union, dealing, store):
    """Return a union and the rows at the hands."""
    asked = check_union(dealing.widths, union)
    return (asked, dealt_stores(dealing, store))


def answers_by_hand(union, dealing, store):
    """Return for each hand its answers."""
    asked, parts = _asked(union, dealing, store)
    return tuple([answers(asked, part) for part in parts])


def answers_together(union, dealing, store):
    """Return all that some hand answers, ascending."""
    asked, parts = _asked(union, dealing, store)
    return laid_together(asked, parts)


def answers_after(union, dealing, store, lost):
    """Return all that some hand answers that is not lost, ascending."""
    asked, parts = _asked(union, dealing, store)
    gone = check_lost(dealing, lost)
    return laid_together(asked, [part for hand, part in enumerate(parts) if hand not in gone])


def counted_together(question, dealing, store):
    """Return the answers of the hands, ascending, each with the sum of the numbers that the hands count."""
    asked = check_question(dealing.widths, question)
    sums = {}
    for part in dealt_stores(dealing, store):
        for answer, number in counted(asked, part):
            sums[answer] = sums.get(answer, 0) + number
    return tuple(sorted([(answer, sums[answer]) for answer in sums]))
