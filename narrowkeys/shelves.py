"""Shelves: lists of indexes in their order."""

from narrowkeys.errors import NoNumber, TooMany, Wrong
from narrowkeys.words import LIMIT, are_indexes, is_index, is_integer


class Shelf:
    """At most 48 indexes; the same one may stand in it several times. It never changes."""

    def __init__(self, indexes):
        if not are_indexes(indexes):
            raise Wrong(0)
        if len(indexes) > LIMIT:
            raise TooMany(LIMIT)
        self._indexes = list(indexes)

    def __eq__(self, other):
        return isinstance(other, Shelf) and self._indexes == other._indexes

    def __add__(self, other):
        return Shelf(self._indexes + other._indexes)

    def __len__(self):
        return len(self._indexes)

    def __contains__(self, x):
        return is_index(x) and x in self._indexes

    def __iter__(self):
        return iter(self._indexes)

    def __getitem__(self, at):
        if not self.has_number(at):
            raise NoNumber(at)
        return self._indexes[at]

    def has_number(self, number):
        """Whether number, any value, is that of an index."""
        return is_integer(number) and 0 <= number < len(self._indexes)

    def indexes(self):
        return list(self._indexes)

    def columns(self):
        return sorted({column for index in self._indexes for column in index})

    def with_index(self, index):
        return Shelf([*self._indexes, index])

    def without(self, number):
        if not self.has_number(number):
            raise NoNumber(number)
        return Shelf([index for place, index in enumerate(self._indexes) if place != number])

    def renamed(self, names):
        return Shelf([tuple([names[column] for column in index]) for index in self._indexes])
