"""Shelves of the least cost, and papers that show that there is none of less."""

from narrowkeys.laid import numbers_of, order_of, places_of, shelf_of, told
from narrowkeys.levels import least_cost
from narrowkeys.serving import serves_all
from narrowkeys.shelves import Shelf
from narrowkeys.steps import is_for_each
from narrowkeys.weights import weigh


def cost(shelf, *, weights=None):
    return sum([weigh(index, weights) for index in shelf])


def narrow_shelf(asked, *, weights=None):
    return shelf_of(asked, order_of(asked, weights).chains())


def is_narrow(asked, thing, *, weights=None):
    if not isinstance(thing, Shelf) or not serves_all(thing, asked):
        return False
    return cost(thing, weights=weights) == least_cost(asked, weights=weights)


def narrow_paper(asked, *, weights=None):
    chains, lists = order_of(asked, weights).paper()
    return shelf_of(asked, chains), [told(asked, numbers) for numbers in lists]


def is_narrow_paper(asked, thing, *, weights=None):
    if not isinstance(thing, tuple) or len(thing) != 2:
        return False
    shelf, lists = thing
    order = order_of(asked, weights)
    if not isinstance(shelf, Shelf) or not serves_all(shelf, asked) or not is_for_each(lists, order.levels()):
        return False
    places = places_of(asked)
    rows = [numbers_of(one, places) for one in lists]
    if None in rows:
        return False
    return order.proves(cost(shelf, weights=weights), rows)
