"""Shelves of the least cost, and papers that show that there is none of less."""

from narrowkeys.laid import is_apart_list, lot_of, shelf_of, told
from narrowkeys.levels import least_cost
from narrowkeys.serving import unserved
from narrowkeys.shelves import Shelf
from narrowkeys.steps import levels_of, sum_of_steps
from narrowkeys.weights import weigh


def cost(shelf, *, weights=None):
    return sum([weigh(index, weights) for index in shelf])


def narrow_shelf(asked, *, weights=None):
    return shelf_of(asked, lot_of(asked, weights).chains())


def serves_all(thing, asked):
    """Whether any value is a Shelf that serves all of asked."""
    return isinstance(thing, Shelf) and len(unserved(thing, asked)) == 0


def is_narrow(asked, thing, *, weights=None):
    return serves_all(thing, asked) and cost(thing, weights=weights) == least_cost(asked, weights=weights)


def narrow_paper(asked, *, weights=None):
    chains, lists = lot_of(asked, weights).paper()
    return shelf_of(asked, chains), [told(asked, numbers) for numbers in lists]


def is_heavy_list(asked, thing, level, weights):
    """Whether any value is an ascending list of questions of asked that weigh at least level and are apart."""
    return is_apart_list(asked, thing) and all([weigh(question, weights) >= level for question in thing])


def is_narrow_paper(asked, thing, *, weights=None):
    if not isinstance(thing, tuple) or len(thing) != 2:
        return False
    shelf, lists = thing
    levels = levels_of([weigh(question, weights) for question in asked])
    if not serves_all(shelf, asked) or not isinstance(lists, list) or len(lists) != len(levels):
        return False
    if not all([is_heavy_list(asked, one, level, weights) for one, level in zip(lists, levels)]):
        return False
    return cost(shelf, weights=weights) == sum_of_steps(levels, [len(one) for one in lists])
