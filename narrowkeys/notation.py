"""The texts of questions, indexes, lists of both, and weights."""


def show_question(question):
    columns, last = question
    if last == "":
        return " ".join(columns)
    return " ".join([*columns, ">", last])


def show_index(index):
    return ", ".join(index)


def show_lines(rows):
    """The text that has a line for each of rows, a list of texts."""
    return "".join([f"{row}\n" for row in rows])


def show_asked(asked):
    return show_lines([show_question(question) for question in asked])


def show_shelf(shelf):
    return show_lines([show_index(index) for index in shelf])


def show_weights(weights):
    return show_lines([f"{column} {weight}" for column, weight in weights.table().items()])
