"""Levels, the different ones of some weights, and sums over their steps."""


def levels_of(weights):
    """weights is a list of integers."""
    return sorted(set(weights))


def sum_of_steps(levels, many):
    """The sum of the steps of levels, each times the number that many, a list, has for its level."""
    steps = [level - ahead for level, ahead in zip(levels, [0, *levels])]
    return sum([step * times for step, times in zip(steps, many)])


def is_for_each(thing, levels):
    """Whether any value is a list that has something for each of levels."""
    return isinstance(thing, list) and len(thing) == len(levels)
