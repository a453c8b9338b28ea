"""Weights of the columns."""

from narrowkeys.errors import NoColumn, Unfit, Wrong
from narrowkeys.questions import row_of
from narrowkeys.words import is_column, is_weight


def columns_in(thing):
    """The columns of a question or an index, each once."""
    if isinstance(thing[0], tuple):
        return row_of(thing)
    return thing


def weigh(thing, weights):
    """The weight of a question or an index. With None for weights each column weighs 1."""
    if weights is None:
        return len(columns_in(thing))
    return weights(thing)


class Weights:
    """The weight of each column, 1 if it is not told. It changes only by weights[column] = number."""

    def __init__(self, table):
        if not isinstance(table, dict):
            raise Wrong(0)
        if not all([is_column(column) and is_weight(weight) for column, weight in table.items()]):
            raise Wrong(0)
        # Weights of 1 are left out, so that equal ones have equal tables.
        self._table = {column: table[column] for column in table if table[column] != 1}

    def __eq__(self, other):
        return isinstance(other, Weights) and self._table == other._table

    def __iter__(self):
        raise TypeError("there is a weight for each column that can be")

    def __getitem__(self, at):
        if not is_column(at):
            raise NoColumn(at)
        return self._table.get(at, 1)

    def __setitem__(self, at, worth):
        if not is_column(at):
            raise NoColumn(at)
        if not is_weight(worth):
            raise Unfit()
        if worth == 1:
            self._table.pop(at, None)
        else:
            self._table[at] = worth

    def __call__(self, thing):
        return sum([self._table.get(column, 1) for column in columns_in(thing)])

    def table(self):
        return {column: self._table[column] for column in sorted(self._table)}

    def copied(self):
        return Weights(self._table)
