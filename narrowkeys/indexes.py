"""Indexes: which questions they serve, and which index serves several questions."""

from narrowkeys.errors import Apart
from narrowkeys.questions import split_pair


def first_fault(index, question):
    columns, last = question
    many = len(columns)
    for place in range(many):
        if place >= len(index) or index[place] not in columns:
            return place
    if last != "" and (many >= len(index) or index[many] != last):
        return many
    return None


def serves(index, question):
    columns, last = question
    many = len(columns)
    if last != "" and index[many:many + 1] != (last,):
        return False
    return tuple(sorted(index[:many])) == columns


def questions_of(index):
    found = []
    for many, column in enumerate(index):
        front = tuple(sorted(index[:many]))
        found.append((front, column))
        found.append((tuple(sorted([*front, column])), ""))
    return sorted(found)


def many_by_equality(question):
    return len(question[0])


def lengthened(front, questions):
    """The index that begins with front, a tuple, and serves questions, each next one being above those ahead."""
    found = list(front)
    for columns, last in questions:
        for column in [*columns, last]:
            if column != "" and column not in found:
                found.append(column)
    return tuple(found)


def index_for(questions):
    pair = split_pair(questions)
    if pair is not None:
        raise Apart(pair)
    # Of two that can share, the one with fewer columns by equality is below the other one;
    # with equally many these are the same, and either order gives the same index.
    return lengthened((), sorted(questions, key=many_by_equality))
