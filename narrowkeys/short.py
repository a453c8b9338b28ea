"""Shelves of the least cost among those that serve the same questions.

Shelves are alike if they serve the same ranged questions, and an index serves a row of these, from one that
asks no column by equality: each next one asks just the columns of the one ahead. So the things are the ranged
questions, each above those that lead to it, and each chain of them can be filled up to such a row.
"""

from narrowkeys.compared import alike
from narrowkeys.families import served_pairs
from narrowkeys.indexes import many_by_equality
from narrowkeys.laid import numbers_in, numbers_of, places_of
from narrowkeys.narrow import cost
from narrowkeys.order import Order
from narrowkeys.questions import columns_of
from narrowkeys.shelves import Shelf
from narrowkeys.steps import is_for_each
from narrowkeys.weights import weigh


def numbers_by(keys):
    """A dict from each of keys, a list, to the ascending list of the places where it stands."""
    found = {}
    for place, key in enumerate(keys):
        found.setdefault(key, []).append(place)
    return found


def leads_of(questions):
    """For each of questions, ranged ones, the ascending list of the numbers of those that it leads to."""
    nexts = numbers_by([columns for columns, _ in questions])
    bits = {}
    # Those that ask more by equality are led to, so that they go ahead.
    for question in sorted(questions, key=many_by_equality, reverse=True):
        found = 0
        for number in nexts.get(columns_of(question), []):
            found = found | (1 << number) | bits[questions[number]]
        bits[question] = found
    return [numbers_in(bits[question]) for question in questions]


def order_of_pairs(questions, weights):
    """The Order of questions, all ranged ones that a shelf serves. weights may be None."""
    return Order([weigh(question, weights) for question in questions], leads_of(questions))


def one_ahead(numbers, aims, order):
    """The first one of numbers that is the last of aims or that this leads to; any if there are no aims."""
    fitting = [number for number in numbers if aims == [] or number == aims[-1] or order.is_above(number, aims[-1])]
    return fitting[0]


def index_of(questions, aheads, order, chain):
    """The index of a chain. It serves the questions of the chain, and others that lead from one to the next.

    aheads is a dict from columns to the numbers of the questions that have just these.
    """
    aims = list(chain)
    number = aims.pop()
    row = [number]
    while questions[number][0] != ():
        number = one_ahead(aheads[questions[number][0]], aims, order)
        row.append(number)
        if aims != [] and number == aims[-1]:
            aims.pop()
    return tuple([questions[one][1] for one in row[::-1]])


def shelf_by(questions, order, chains):
    aheads = numbers_by([columns_of(question) for question in questions])
    return Shelf([index_of(questions, aheads, order, chain) for chain in chains])


def least_alike(shelf, *, weights=None):
    return order_of_pairs(served_pairs(shelf), weights).least()


def short_alike(shelf, *, weights=None):
    questions = served_pairs(shelf)
    order = order_of_pairs(questions, weights)
    return shelf_by(questions, order, order.chains())


def short_paper(shelf, *, weights=None):
    questions = served_pairs(shelf)
    order = order_of_pairs(questions, weights)
    chains, lists = order.paper()
    rows = [[questions[number] for number in numbers] for numbers in lists]
    return shelf_by(questions, order, chains), rows


def is_alike(shelf, thing):
    """Whether any value is a Shelf that is alike to shelf."""
    # A Shelf with other columns serves other questions. So nothing large is ever looked through.
    return isinstance(thing, Shelf) and thing.columns() == shelf.columns() and alike(shelf, thing)


def is_short(shelf, thing, *, weights=None):
    if not is_alike(shelf, thing):
        return False
    _, paid = least_alike(shelf, weights=weights)
    return cost(thing, weights=weights) == paid


def is_short_paper(shelf, thing, *, weights=None):
    if not isinstance(thing, tuple) or len(thing) != 2:
        return False
    other, lists = thing
    questions = served_pairs(shelf)
    order = order_of_pairs(questions, weights)
    if not is_alike(shelf, other) or not is_for_each(lists, order.levels()):
        return False
    places = places_of(questions)
    rows = [numbers_of(one, places) for one in lists]
    if None in rows:
        return False
    return order.proves(cost(other, weights=weights), rows)
