"""How shelves compare by all questions that they serve, and which of their indexes add none."""

from narrowkeys.families import served
from narrowkeys.indexes import questions_of
from narrowkeys.questions import width
from narrowkeys.shelves import Shelf


def covers(one, other):
    return len(set(served(other)) - set(served(one))) == 0


def alike(one, other):
    return served(one) == served(other)


def parting(one, other):
    found = sorted(set(served(one)) ^ set(served(other)))
    # The first one of the least width is the least of these, as they are ascending.
    return min(found, key=width, default=None)


def count_servers(shelf):
    """How many indexes of shelf serve each of the questions that it serves."""
    many = {}
    for index in shelf:
        for question in questions_of(index):
            many[question] = many.get(question, 0) + 1
    return many


def is_spare(index, many):
    """Whether each question of index is served by another index, too; many is as count_servers tells."""
    return all([many[question] > 1 for question in questions_of(index)])


def needless(shelf):
    many = count_servers(shelf)
    return [number for number, index in enumerate(shelf) if is_spare(index, many)]


def pruned(shelf):
    many = count_servers(shelf)
    left = []
    for index in shelf.indexes()[::-1]:
        if is_spare(index, many):
            for question in questions_of(index):
                many[question] = many[question] - 1
        else:
            left.append(index)
    return Shelf(left[::-1])
