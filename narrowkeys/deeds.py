"""Deeds: what they are, their texts, and what they do to an Asked, a Shelf and Weights."""

from narrowkeys.errors import NoText
from narrowkeys.notation import show_index, show_question
from narrowkeys.readers import read_index, read_number, read_question
from narrowkeys.shelves import Shelf
from narrowkeys.words import LIMIT, is_column, is_index, is_integer, is_question, is_weight


def is_place(thing):
    """Whether any value is an integer from 0 on, perhaps the number of an index."""
    return is_integer(thing) and thing >= 0


def is_deed_of_two(word, thing):
    if word in ("ask", "forget"):
        return is_question(thing)
    if word == "build":
        return is_index(thing)
    return word == "drop" and is_place(thing)


def is_deed_of_three(word, one, other):
    if word == "lengthen":
        return is_place(one) and is_column(other)
    return word == "weigh" and is_column(one) and is_weight(other)


def is_deed(thing):
    """Whether any value is a deed."""
    if not isinstance(thing, tuple) or len(thing) == 0 or not isinstance(thing[0], str):
        return False
    if len(thing) == 2:
        return is_deed_of_two(thing[0], thing[1])
    return len(thing) == 3 and is_deed_of_three(thing[0], thing[1], thing[2])


def show_deed(deed):
    """The line that does deed, without a line feed."""
    word, *rest = deed
    if word in ("ask", "forget"):
        return f"{word} {show_question(rest[0])}"
    if word == "build":
        return f"{word} {show_index(rest[0])}"
    return " ".join([word, *[str(one) for one in rest]])


def read_parts(word, text):
    """What may be a deed of this word, if text is what stands behind it."""
    if word in ("ask", "forget"):
        return word, read_question(text)
    if word == "build":
        return word, read_index(text)
    if word == "drop":
        return word, read_number(text)
    front, _, back = text.partition(" ")
    if word == "lengthen":
        return word, read_number(front), back
    if word == "weigh":
        return word, front, read_number(back)
    raise NoText()


def read_deed(line):
    """The deed that line, a string, does."""
    word, _, text = line.partition(" ")
    deed = read_parts(word, text)
    if not is_deed(deed):
        raise NoText()
    return deed


def asked_behind(asked, word, question):
    """The Asked behind the deed of this word, or None if it is refused."""
    if word == "forget":
        return asked.without(question) if question in asked else None
    if question in asked or len(asked) >= LIMIT:
        return None
    return asked.with_question(question)


def shelf_with_one_more(shelf, index):
    """The Shelf with one index more, or None if there is no place for it."""
    return shelf.with_index(index) if len(shelf) < LIMIT else None


def shelf_without(shelf, number):
    """The Shelf without the index of this number, or None if there is none."""
    return shelf.without(number) if shelf.has_number(number) else None


def shelf_with_longer(shelf, number, column):
    """The Shelf with column behind the index of this number, or None if that cannot be."""
    if not shelf.has_number(number) or column in shelf[number]:
        return None
    rows = shelf.indexes()
    rows[number] = (*rows[number], column)
    return Shelf(rows)


def shelf_behind(shelf, deed):
    """The Shelf behind deed, or None if it is refused."""
    if deed[0] == "build":
        return shelf_with_one_more(shelf, deed[1])
    if deed[0] == "drop":
        return shelf_without(shelf, deed[1])
    return shelf_with_longer(shelf, deed[1], deed[2])


def weights_behind(weights, column, weight):
    """Other Weights, in which column weighs as much."""
    copy = weights.copied()
    copy[column] = weight
    return copy


def state_behind(state, deed):
    """The tuple (asked, shelf, weights) behind deed, or None if it is refused. None of the three is changed."""
    asked, shelf, weights = state
    if deed[0] == "weigh":
        return asked, shelf, weights_behind(weights, deed[1], deed[2])
    if deed[0] in ("ask", "forget"):
        asked = asked_behind(asked, deed[0], deed[1])
    else:
        shelf = shelf_behind(shelf, deed)
    if asked is None or shelf is None:
        return None
    return asked, shelf, weights
