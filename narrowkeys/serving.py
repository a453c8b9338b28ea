"""How a shelf serves questions: which index of it, and which of its indexes are of no use."""

from narrowkeys.asked import Asked
from narrowkeys.errors import Unserved
from narrowkeys.indexes import first_fault, serves


def servers(shelf, question):
    """The ascending list of the numbers of the indexes that serve question."""
    return [number for number, index in enumerate(shelf) if serves(index, question)]


def is_served(shelf, question):
    for index in shelf:
        if serves(index, question):
            return True
    return False


def serves_all(shelf, asked):
    return all([is_served(shelf, question) for question in asked])


def place_of(shelf, question):
    numbers = servers(shelf, question)
    if len(numbers) == 0:
        raise Unserved(question)
    return numbers[0]


def faults(shelf, question):
    return [first_fault(index, question) for index in shelf]


def places(shelf, asked):
    found = []
    for question in asked:
        numbers = servers(shelf, question)
        found.append(numbers[0] if len(numbers) > 0 else None)
    return found


def unserved(shelf, asked):
    return Asked([question for question in asked if not is_served(shelf, question)])


def idle(shelf, asked):
    busy = [number for question in asked for number in servers(shelf, question)]
    return [number for number in range(len(shelf)) if number not in busy]


def droppable(shelf, asked):
    """A question is lost with an index only if no other index serves it."""
    needed = []
    for question in asked:
        numbers = servers(shelf, question)
        if len(numbers) == 1:
            needed.append(numbers[0])
    return [number for number in range(len(shelf)) if number not in needed]
