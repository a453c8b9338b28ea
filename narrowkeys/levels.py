"""How many questions of at least some weight are apart, and what a shelf costs at the least."""

from narrowkeys.laid import lot_of, told


def levels(asked, *, weights=None):
    return lot_of(asked, weights).levels()


def least_cost(asked, *, weights=None):
    return lot_of(asked, weights).least_sum()


def apart_from(asked, level, *, weights=None):
    return told(asked, lot_of(asked, weights).apart_from(level))
