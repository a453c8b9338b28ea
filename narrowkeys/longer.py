"""Indexes that stand already and may be lengthened, and others that are built beside them.

The things are the questions that the standing indexes do not serve, by their numbers, and behind them the
standing indexes. An index is below the questions that it can be lengthened to serve, so that it stands at
the beginning of a chain; a chain that begins with a question is a further index.
"""

from narrowkeys.indexes import lengthened
from narrowkeys.laid import asking_all, askers_of, numbers_in, numbers_of, places_of, ups_of
from narrowkeys.narrow import cost
from narrowkeys.order import Order
from narrowkeys.serving import serves_all, unserved
from narrowkeys.shelves import Shelf
from narrowkeys.steps import is_for_each
from narrowkeys.weights import weigh
from narrowkeys.words import is_ascending, is_number


def order_with(questions, standing, weights):
    """The Order of questions, a list, and behind them of the indexes of standing."""
    askers, full = askers_of(questions), (1 << len(questions)) - 1
    ups = ups_of(questions)
    ups.extend([numbers_in(asking_all(index, askers, full)) for index in standing])
    return Order([weigh(thing, weights) for thing in [*questions, *standing]], ups)


def least_added(asked, standing, *, weights=None):
    order = order_with(unserved(standing, asked).questions(), standing, weights)
    _, paid = order.least()
    return paid - cost(standing, weights=weights)


def shelf_by(questions, standing, chains):
    """The Shelf that chains of questions and standing indexes make: first the standing ones, in their order."""
    many = len(questions)
    rows = {}
    further = []
    for chain in chains:
        served = [questions[number] for number in chain if number < many]
        if chain[0] < many:
            further.append(lengthened((), served))
        else:
            rows[chain[0] - many] = lengthened(standing[chain[0] - many], served)
    return Shelf([*[rows[number] for number in range(len(standing))], *further])


def led_on(asked, standing, *, weights=None):
    questions = unserved(standing, asked).questions()
    return shelf_by(questions, standing, order_with(questions, standing, weights).chains())


def led_paper(asked, standing, *, weights=None):
    questions = unserved(standing, asked).questions()
    many = len(questions)
    chains, lists = order_with(questions, standing, weights).paper()
    rows = [
        ([questions[thing] for thing in things if thing < many], [thing - many for thing in things if thing >= many])
        for things in lists
    ]
    return shelf_by(questions, standing, chains), rows


def leads_on(asked, standing, thing):
    """Whether any value is a Shelf that is led on from standing and serves all of asked."""
    if not isinstance(thing, Shelf) or len(thing) < len(standing) or not serves_all(thing, asked):
        return False
    return all([index[:len(front)] == front for front, index in zip(standing, thing)])


def is_led_on(asked, standing, thing, *, weights=None):
    if not leads_on(asked, standing, thing):
        return False
    more = cost(thing, weights=weights) - cost(standing, weights=weights)
    return more == least_added(asked, standing, weights=weights)


def things_of(thing, places, standing):
    """The numbers of all in thing, if any value is a tuple (questions, numbers) of ascending lists, else None."""
    if not isinstance(thing, tuple) or len(thing) != 2:
        return None
    things, numbers = numbers_of(thing[0], places), thing[1]
    if things is None or not isinstance(numbers, list):
        return None
    if not all([is_number(one, len(standing)) for one in numbers]) or not is_ascending(numbers):
        return None
    return [*things, *[len(places) + number for number in numbers]]


def is_led_paper(asked, standing, thing, *, weights=None):
    if not isinstance(thing, tuple) or len(thing) != 2:
        return False
    shelf, lists = thing
    questions = unserved(standing, asked).questions()
    order = order_with(questions, standing, weights)
    if not leads_on(asked, standing, shelf) or not is_for_each(lists, order.levels()):
        return False
    places = places_of(questions)
    rows = [things_of(one, places, standing) for one in lists]
    if None in rows:
        return False
    return order.proves(cost(shelf, weights=weights), rows)
