"""The questions of an Asked as the things of a Lot, by their numbers in it, and back."""

from narrowkeys.indexes import index_for
from narrowkeys.lots import Lot
from narrowkeys.questions import can_share, is_below
from narrowkeys.shelves import Shelf
from narrowkeys.weights import weigh


def lot_of(asked, weights):
    """The Lot in which a question is above those that are below it. weights may be None."""
    rows = asked.questions()
    pairs = [
        (low, high) for low, one in enumerate(rows) for high, other in enumerate(rows) if is_below(one, other)
    ]
    return Lot([weigh(question, weights) for question in rows], pairs)


def told(asked, numbers):
    """The questions of asked that have these numbers, in their order."""
    rows = asked.questions()
    return [rows[number] for number in numbers]


def shelf_of(asked, chains):
    """The Shelf with an index for each chain of numbers. It has just the columns of the top of the chain."""
    return Shelf([index_for(told(asked, chain)) for chain in chains])


def are_apart(questions):
    """Whether no two of questions, all different, can share."""
    places = range(len(questions))
    return not any([can_share(questions[low], questions[high]) for high in places for low in range(high)])


def is_apart_list(asked, thing):
    """Whether any value is an ascending list of different questions of asked that are apart."""
    if not isinstance(thing, list) or not all([question in asked for question in thing]):
        return False
    if not all([one < other for one, other in zip(thing, thing[1:])]):
        return False
    return are_apart(thing)
