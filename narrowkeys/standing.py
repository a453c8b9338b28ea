"""What must be built beside indexes that stand already and cost nothing more."""

from narrowkeys.laid import order_of
from narrowkeys.levels import least_cost
from narrowkeys.narrow import cost, narrow_shelf
from narrowkeys.serving import serves_all, unserved
from narrowkeys.shelves import Shelf


def lacking(asked, standing):
    """The Asked of the questions for which something must be built."""
    return unserved(standing, asked)


def least_more(asked, standing, *, weights=None):
    return order_of(lacking(asked, standing), weights).least()


def more_shelf(asked, standing, *, weights=None):
    return narrow_shelf(lacking(asked, standing), weights=weights)


def is_more(asked, standing, thing, *, weights=None):
    left = lacking(asked, standing)
    if not isinstance(thing, Shelf) or not serves_all(thing, left):
        return False
    return cost(thing, weights=weights) == least_cost(left, weights=weights)
