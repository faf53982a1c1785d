"""Sorts, which part the values."""
from meetwhere.errors import BadSorts, BadValue, NoSort
from meetwhere.stores import is_value
from meetwhere.widths import is_sequence, is_whole

MOST_NAMED = 8
MOST_MODULUS = 6


def is_ascending(thing):
    """Return whether a thing of any kind is a sequence of values in strictly ascending order."""
    if not is_sequence(thing) or not all([is_value(value) for value in thing]):
        return False
    return all([low < high for low, high in zip(thing, thing[1:])])


class Sorts:
    """Sorts of all values: some named ones alone, the others by their remainders."""

    def __init__(self, named, modulus):
        if not is_ascending(named) or len(named) > MOST_NAMED:
            raise BadSorts("named")
        if not is_whole(modulus, 1, MOST_MODULUS):
            raise BadSorts("modulus")
        self.named = tuple(named)
        self.modulus = modulus

    @property
    def many(self):
        """The number of sorts."""
        return len(self.named) + self.modulus

    def __eq__(self, other):
        return isinstance(other, Sorts) and self.named == other.named and self.modulus == other.modulus

    def _place_of(self, value):
        """Return the sort of what is known to be a value."""
        for sort, named in enumerate(self.named):
            if named == value:
                return sort
        return len(self.named) + value % self.modulus

    def sort_of(self, value):
        """Return the sort of a value."""
        if not is_value(value):
            raise BadValue(value)
        return self._place_of(value)

    def kind_of(self, row):
        """Return the kind of a row: its table and the sorts of its values."""
        table, values = row
        return (table, tuple([self._place_of(value) for value in values]))

    def value_of(self, sort, number, avoided=()):
        """Return the value of a sort with this number among those that are not avoided, None if there is none."""
        if not is_whole(sort, 0, self.many - 1):
            raise NoSort(sort)
        barred = {value: True for value in avoided}
        if sort < len(self.named):
            value = self.named[sort]
            return value if number == 0 and value not in barred else None
        return self._remaining(sort - len(self.named), number, barred)

    def _remaining(self, remainder, number, barred):
        """Return the value with this number among those of a remainder that are neither named nor barred."""
        value = remainder
        left = number
        while value in self.named or value in barred or left > 0:
            if value not in self.named and value not in barred:
                left -= 1
            value += self.modulus
        return value
