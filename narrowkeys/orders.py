"""All indexes with as few columns as possible that serve some questions, numbered in ascending order.

They are rows of blocks: the same columns in the same places, but within a block in any order.
"""

from math import factorial

from narrowkeys.errors import NoNumber, Unfit
from narrowkeys.indexes import index_for, many_by_equality, serves
from narrowkeys.questions import width
from narrowkeys.words import is_index, is_integer


def blocks_of(questions):
    """The blocks, each ascending, as in the least index. Raises Apart(pair) if two questions cannot share."""
    index = index_for(questions)
    ends = sorted({many for question in questions for many in (many_by_equality(question), width(question))})
    return [index[start:end] for start, end in zip([0, *ends], ends)]


def count_rows(blocks):
    many = 1
    for block in blocks:
        many = many * factorial(len(block))
    return many


def count_orders(questions):
    return count_rows(blocks_of(questions))


def order_at(questions, number):
    blocks = blocks_of(questions)
    many = count_rows(blocks)
    if not is_integer(number) or not 0 <= number < many:
        raise NoNumber(number)
    found = []
    rest = number
    for block in blocks:
        waiting = list(block)
        while len(waiting) > 0:
            # Behind each column that can stand here there are as many orders of all others.
            many = many // len(waiting)
            place, rest = divmod(rest, many)
            found.append(waiting.pop(place))
    return tuple(found)


def is_order(questions, thing):
    """Whether any value is an order of questions, of which each two can share."""
    if not is_index(thing) or len(thing) != max([width(question) for question in questions]):
        return False
    return all([serves(thing, question) for question in questions])


def order_number(questions, index):
    blocks = blocks_of(questions)
    if not is_order(questions, index):
        raise Unfit()
    many = count_rows(blocks)
    number = 0
    row = list(index)
    for block in blocks:
        waiting = list(block)
        while len(waiting) > 0:
            many = many // len(waiting)
            column = row.pop(0)
            number = number + many * waiting.index(column)
            waiting.remove(column)
    return number
