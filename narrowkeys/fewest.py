"""The fewest indexes that serve all questions, and as many questions as possible that are apart."""

from narrowkeys.laid import numbers_of, order_of, places_of, shelf_of, told
from narrowkeys.serving import serves_all
from narrowkeys.shelves import Shelf


def fewest(asked):
    return order_of(asked, None).least()[0]


def fewest_shelf(asked):
    return shelf_of(asked, order_of(asked, None).chains())


def apart(asked):
    # Each question weighs at least 1, so that all of them count.
    return told(asked, order_of(asked, None).apart_from(1))


def is_fewest(asked, thing):
    if not isinstance(thing, Shelf) or not serves_all(thing, asked):
        return False
    return len(thing) == fewest(asked)


def is_apart(asked, thing):
    numbers = numbers_of(thing, places_of(asked))
    if numbers is None:
        return False
    order = order_of(asked, None)
    return order.are_apart(numbers, 1) and len(numbers) == order.least()[0]
