"""By how much the fewest indexes and the least cost change with one question more or less."""

from narrowkeys.laid import order_of


def growth(asked, more, weights):
    """By how much the least number and the least cost of the indexes are greater for more than for asked."""
    many, paid = order_of(asked, weights).least()
    many_more, paid_more = order_of(more, weights).least()
    return many_more - many, paid_more - paid


def added(asked, question, *, weights=None):
    if question in asked:
        return 0, 0
    return growth(asked, asked.with_question(question), weights)


def saved(asked, question, *, weights=None):
    return growth(asked.without(question), asked, weights)
