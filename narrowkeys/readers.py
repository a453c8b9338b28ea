"""Reads the texts that narrowkeys.notation shows."""

from narrowkeys.asked import Asked
from narrowkeys.errors import NoText
from narrowkeys.notation import show_question
from narrowkeys.shelves import Shelf
from narrowkeys.weights import Weights
from narrowkeys.words import LIMIT, is_ascending, is_column, is_index, is_question, is_weight

# No number that is read has more digits than this.
MOST_DIGITS = 40


def read_question(text):
    if not isinstance(text, str):
        raise NoText()
    front, _, back = text.partition(">")
    question = tuple(front.split()), back.strip()
    # Where blanks or the sign are not as they are shown, the question has another text.
    if not is_question(question) or show_question(question) != text:
        raise NoText()
    return question


def read_index(text):
    if not isinstance(text, str):
        raise NoText()
    index = tuple(text.split(", "))
    if not is_index(index):
        raise NoText()
    return index


def read_number(text):
    """The integer from 0 on that text, a string, has in decimal digits without leading zeros."""
    if not 1 <= len(text) <= MOST_DIGITS or not all(["0" <= sign <= "9" for sign in text]):
        raise NoText()
    if text[0] == "0" and text != "0":
        raise NoText()
    return int(text)


def lines_of(text):
    """The lines of any value, each without its line feed."""
    if not isinstance(text, str) or (text != "" and not text.endswith("\n")):
        raise NoText()
    return text.split("\n")[:-1]


def read_asked(text):
    lines = lines_of(text)
    if len(lines) > LIMIT:
        raise NoText()
    questions = [read_question(line) for line in lines]
    if not is_ascending(questions):
        raise NoText()
    return Asked(questions)


def read_shelf(text):
    lines = lines_of(text)
    if len(lines) > LIMIT:
        raise NoText()
    return Shelf([read_index(line) for line in lines])


def read_weight(line):
    """The tuple (column, weight) of a line."""
    column, _, digits = line.partition(" ")
    weight = read_number(digits)
    if not is_column(column) or not is_weight(weight) or weight == 1:
        raise NoText()
    return column, weight


def read_weights(text):
    rows = [read_weight(line) for line in lines_of(text)]
    if not is_ascending([column for column, _ in rows]):
        raise NoText()
    return Weights(dict(rows))
