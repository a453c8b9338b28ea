"""All questions over some columns, and what they need."""

from math import comb

from narrowkeys.asked import Asked
from narrowkeys.steps import sum_of_steps


def parts_of(columns):
    """All parts of a tuple of columns, the empty one too, each in the order of columns."""
    parts = [()]
    for column in columns:
        parts = [*parts, *[(*part, column) for part in parts]]
    return parts


def all_questions(columns, *, plain=False):
    parts = parts_of(columns)
    found = [(part, "") for part in parts if part != ()]
    if not plain:
        found.extend([(part, last) for part in parts for last in columns if last not in part])
    return Asked(found)


def most_of_width(many, wide, plain):
    """How many questions over so many columns, each of this width, are apart because all are of one kind.

    The plain ones of a width are apart, and so are the ranged ones, of which there are more.
    """
    if plain:
        return comb(many, wide)
    return comb(many, wide - 1) * (many - wide + 1)


def levels_for(many, *, plain=False):
    widths = range(1, many + 1)
    return [(level, max([most_of_width(many, wide, plain) for wide in widths if wide >= level])) for level in widths]


def fewest_for(many, *, plain=False):
    return max([number for _, number in levels_for(many, plain=plain)], default=0)


def width_for(many, *, plain=False):
    rows = levels_for(many, plain=plain)
    return sum_of_steps([level for level, _ in rows], [number for _, number in rows])
