"""All questions that a shelf serves."""

from narrowkeys.indexes import questions_of
from narrowkeys.questions import is_plain


def served(shelf):
    return sorted({question for index in shelf for question in questions_of(index)})


def served_pairs(shelf):
    return [question for question in served(shelf) if not is_plain(question)]


def count_served(shelf):
    return len(served(shelf))
