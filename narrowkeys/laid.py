"""The questions of an Asked as the things of an Order, by their numbers in it, and back.

A question is above those that are below it: it asks all columns of theirs by equality.
"""

from narrowkeys.indexes import lengthened
from narrowkeys.order import Order
from narrowkeys.questions import row_of
from narrowkeys.shelves import Shelf
from narrowkeys.weights import weigh
from narrowkeys.words import is_ascending, is_question


def askers_of(questions):
    """For each column a number that has the bit n if the question n asks it by equality."""
    found = {}
    for number, (columns, _) in enumerate(questions):
        bit = 1 << number
        for column in columns:
            found[column] = found.get(column, 0) | bit
    return found


def numbers_in(bits):
    """The ascending list of the numbers n of the bits that are set."""
    found = []
    while bits > 0:
        found.append((bits & -bits).bit_length() - 1)
        bits = bits & (bits - 1)
    return found


def asking_all(columns, askers, bits):
    """Those of bits whose questions ask all of columns by equality."""
    for column in columns:
        bits = bits & askers.get(column, 0)
    return bits


def ups_of(questions):
    """For each of questions, a list of different ones, the ascending list of the numbers of those above it."""
    askers = askers_of(questions)
    full = (1 << len(questions)) - 1
    ups = []
    for number, question in enumerate(questions):
        # A plain question asks all of its own columns by equality, but it is not above itself.
        others = full - (1 << number)
        ups.append(numbers_in(asking_all(row_of(question), askers, others)))
    return ups


def order_of(asked, weights):
    """The Order of the questions of asked. weights may be None."""
    questions = asked.questions()
    return Order([weigh(question, weights) for question in questions], ups_of(questions))


def told(asked, numbers):
    """The questions of asked that have these numbers, in their order."""
    rows = asked.questions()
    return [rows[number] for number in numbers]


def shelf_of(asked, chains):
    """The Shelf with an index for each chain of numbers. It has just the columns of the top of the chain."""
    rows = asked.questions()
    return Shelf([lengthened((), [rows[number] for number in chain]) for chain in chains])


def places_of(questions):
    """A dict from each of questions to its number."""
    return {question: number for number, question in enumerate(questions)}


def numbers_of(thing, places):
    """The numbers by places of all in thing, if any value is an ascending list of such questions, else None."""
    if not isinstance(thing, list) or not all([is_question(one) and one in places for one in thing]):
        return None
    numbers = [places[question] for question in thing]
    if not is_ascending(numbers):
        return None
    return numbers


def is_apart_list(asked, thing):
    """Whether any value is an ascending list of different questions of asked that are apart."""
    questions = asked.questions()
    numbers = numbers_of(thing, places_of(questions))
    if numbers is None:
        return False
    return order_of(asked, None).are_apart(numbers, 1)
