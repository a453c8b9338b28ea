"""Things with the numbers 0, 1 .. are linked to things above them, so that they are laid in chains.

Here ups is the list of the lists of the things that stand above each thing, and links a dict from
a thing to the next one of its chain.
"""


def find_link(low, ups, lows, tried):
    """Whether low gets a thing above it, others being moved to other things if need be.

    lows, a dict from a thing to the one that is linked to it, and tried are changed.
    """
    for high in ups[low]:
        if high not in tried:
            tried[high] = True
            if high not in lows or find_link(lows[high], ups, lows, tried):
                lows[high] = low
                return True
    return False


def linked(order, ups):
    """The links of as many things as possible, at each place of order of as many as possible up to it.

    A thing that is linked once stays so: later ones only move it. So the first ones go ahead.
    """
    lows = {}
    for low in order:
        find_link(low, ups, lows, {})
    return {low: high for high, low in lows.items()}


def chains_of(many, links):
    """The chains in which links lay so many things."""
    followers = list(links.values())
    chains = []
    for thing in range(many):
        if thing not in followers:
            chain = [thing]
            while chain[-1] in links:
                chain.append(links[chain[-1]])
            chains.append(chain)
    return chains


def apart_among(things, ups, links):
    """As many of things as possible of which none is above another one, in the order of things.

    things have all that stands above one of them, and links link as many of them as possible.
    Reached is what stands above a top, above what is linked to something reached, and so on. In each
    chain this is a part at its upper end, never all of it: else one more link could be made. Told is
    the next one below that part.
    """
    lows = {high: low for low, high in links.items()}
    reached = {}
    waiting = [thing for thing in things if thing not in links]
    while len(waiting) > 0:
        low = waiting.pop()
        for high in ups[low]:
            if high not in reached:
                reached[high] = True
                waiting.append(lows[high])
    return [
        thing for thing in things
        if thing not in reached and (thing not in links or links[thing] in reached)
    ]
