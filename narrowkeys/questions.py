"""Questions: tuples (columns, last) of columns asked by equality and one asked by range or order."""

from narrowkeys.errors import Wrong
from narrowkeys.words import are_different_columns, is_empty, is_last


def asking(*columns, last=""):
    if not are_different_columns(columns) or (columns == () and is_empty(last)):
        raise Wrong(0)
    if not is_last(last, columns):
        raise Wrong(1)
    return tuple(sorted(columns)), last


def row_of(question):
    """The columns of question, those that are asked by equality ahead of last."""
    columns, last = question
    if last == "":
        return columns
    return *columns, last


def columns_of(question):
    return tuple(sorted(row_of(question)))


def width(question):
    return len(row_of(question))


def is_plain(question):
    return question[1] == ""


def is_below(one, other):
    return one != other and len(set(row_of(one)) - set(other[0])) == 0


def can_share(one, other):
    return one == other or is_below(one, other) or is_below(other, one)


def split_pair(questions):
    different = sorted(set(questions))
    for place, one in enumerate(different):
        for other in different[place + 1:]:
            if not can_share(one, other):
                return one, other
    return None


def renamed_question(question, names):
    """The question with the columns that names, a dict, gives in the place of its own."""
    columns, last = question
    renamed = tuple(sorted([names[column] for column in columns]))
    if last == "":
        return renamed, ""
    return renamed, names[last]
