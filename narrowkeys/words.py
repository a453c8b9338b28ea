"""Tells whether any value is an integer, a column, a question, an index or a weight."""

# The most questions in an Asked, and the most indexes in a Shelf.
LIMIT = 48
LONGEST_COLUMN = 8
GREATEST_WEIGHT = 10 ** 30


def is_integer(thing):
    """True and False are of the class int, but they are no integers here."""
    return isinstance(thing, int) and not isinstance(thing, bool)


def is_number(thing, many):
    """Whether thing, any value, is the number of one of so many things."""
    return is_integer(thing) and 0 <= thing < many


def is_column(thing):
    if not isinstance(thing, str) or not 1 <= len(thing) <= LONGEST_COLUMN:
        return False
    return thing.isascii() and thing.isalpha() and thing.islower()


def are_different_columns(things):
    """things is a tuple of any values. Only columns are put into the set: others may have no hash."""
    return all([is_column(thing) for thing in things]) and len(set(things)) == len(things)


def are_columns(thing):
    if not isinstance(thing, tuple) or not all([is_column(one) for one in thing]):
        return False
    return is_ascending(thing)


def is_ascending(things):
    """Whether things, all of one kind, stand in ascending order, each once."""
    return all([one < other for one, other in zip(things, things[1:])])


def is_empty(thing):
    return isinstance(thing, str) and thing == ""


def is_last(thing, columns):
    """Whether thing can be the last column of a question that asks columns by equality."""
    return is_empty(thing) or (is_column(thing) and thing not in columns)


def is_question(thing):
    if not isinstance(thing, tuple) or len(thing) != 2:
        return False
    columns, last = thing
    if not are_columns(columns) or not is_last(last, columns):
        return False
    return columns != () or last != ""


def is_index(thing):
    return isinstance(thing, tuple) and len(thing) > 0 and are_different_columns(thing)


def is_weight(thing):
    return is_integer(thing) and 1 <= thing <= GREATEST_WEIGHT


def are_questions(thing):
    """Whether thing is a list or a tuple of questions, perhaps of none."""
    return isinstance(thing, (list, tuple)) and all([is_question(one) for one in thing])


def are_indexes(thing):
    """Whether thing is a list or a tuple of indexes, perhaps of none."""
    return isinstance(thing, (list, tuple)) and all([is_index(one) for one in thing])
