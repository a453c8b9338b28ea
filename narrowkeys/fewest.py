"""The fewest indexes that serve all questions, and as many questions as possible that are apart."""

from narrowkeys.laid import is_apart_list, lot_of, shelf_of, told
from narrowkeys.serving import unserved
from narrowkeys.shelves import Shelf


def fewest(asked):
    return lot_of(asked, None).width()


def fewest_shelf(asked):
    return shelf_of(asked, lot_of(asked, None).chains())


def apart(asked):
    # Each question weighs at least 1, so that all of them count.
    return told(asked, lot_of(asked, None).apart_from(1))


def is_fewest(asked, thing):
    if not isinstance(thing, Shelf) or len(thing) != fewest(asked):
        return False
    return len(unserved(thing, asked)) == 0


def is_apart(asked, thing):
    return is_apart_list(asked, thing) and len(thing) == fewest(asked)
