"""How many indexes have just some columns in the shelves of the least cost.

Such an index has just the columns of the greatest question that it serves, the top of a chain. Of
questions of equal weight it is free which ones are linked first: those behind them are rather tops.
"""

from narrowkeys.laid import order_of, shelf_of
from narrowkeys.questions import columns_of


def wholes_of(asked, columns):
    """The numbers of the questions of asked that have just these columns."""
    return [number for number, question in enumerate(asked) if columns_of(question) == columns]


def ranks_of(many, ahead, behind):
    """Ranks of so many things: first those ahead, in their order, at the end those behind, all alike."""
    ranks = [len(ahead)] * many
    for rank, number in enumerate(ahead):
        ranks[number] = rank
    for number in behind:
        ranks[number] = len(ahead) + 1
    return ranks


def linked_first(order, many, wholes):
    """Those of wholes that are no tops if they are linked ahead of what weighs as much, in their order."""
    links = order.links(ranks_of(many, wholes, []))
    return [number for number in wholes if number in links]


def linked_last(order, many, wholes):
    """Those of wholes that are no tops even if they are linked behind all that weighs as much."""
    links = order.links(ranks_of(many, [], wholes))
    return [number for number in wholes if number in links]


def range_of(order, many, wholes):
    """The least and the greatest number of tops among wholes, order being one of so many questions."""
    most_linked, least_linked = linked_first(order, many, wholes), linked_last(order, many, wholes)
    return len(wholes) - len(most_linked), len(wholes) - len(least_linked)


def whole_range(asked, columns, *, weights=None):
    return range_of(order_of(asked, weights), len(asked), wholes_of(asked, columns))


def ranges(asked, weights):
    """Tuples (columns, least, most) for all columns of questions of asked, ascending."""
    order = order_of(asked, weights)
    found = []
    for columns in sorted({columns_of(question) for question in asked}):
        least, most = range_of(order, len(asked), wholes_of(asked, columns))
        found.append((columns, least, most))
    return found


def sure_wholes(asked, *, weights=None):
    return [columns for columns, least, _ in ranges(asked, weights) if least > 0]


def maybe_wholes(asked, *, weights=None):
    return [columns for columns, _, most in ranges(asked, weights) if most > 0]


def shelf_with(asked, columns, many, *, weights=None):
    order, total = order_of(asked, weights), len(asked)
    wholes = wholes_of(asked, columns)
    least, most = range_of(order, total, wholes)
    if not least <= many <= most:
        return None
    # Those that are linked even behind the others go first of all. With them the others of this weight
    # give all further links that there can be, so that what is put behind the others is not linked.
    needed = linked_last(order, total, wholes)
    row = linked_first(order, total, [*needed, *[number for number in wholes if number not in needed]])
    ahead = row[:len(wholes) - many]
    behind = [number for number in wholes if number not in ahead]
    return shelf_of(asked, order.chains_by(ranks_of(total, ahead, behind)))
