"""How many questions of at least some weight are apart, and what a shelf costs at the least."""

from narrowkeys.laid import order_of, told


def levels(asked, *, weights=None):
    return order_of(asked, weights).counts()


def least_cost(asked, *, weights=None):
    return order_of(asked, weights).least()[1]


def apart_from(asked, level, *, weights=None):
    return told(asked, order_of(asked, weights).apart_from(level))
