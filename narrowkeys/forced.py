"""Which questions are served wherever another one is."""

from narrowkeys.questions import columns_of


def forced(question):
    columns, last = question
    found = [question, (columns_of(question), "")]
    if columns != ():
        found.append((columns, ""))
    # Two or more columns may stand in any order, so only a single one is sure to be the first.
    if len(columns) == 1:
        found.append(((), columns[0]))
    return sorted(set(found))


def forces(one, other):
    return other in forced(one)


def why_implied(asked, question):
    for other in asked:
        if other != question and forces(other, question):
            return other
    return None


def implied(asked):
    return [question for question in asked if why_implied(asked, question) is not None]
