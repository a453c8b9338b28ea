"""Finite orders of things with weights: chains of the least sum, and things that are apart."""

from narrowkeys.errors import NoOrder, TooMany, Wrong
from narrowkeys.order import Order
from narrowkeys.steps import is_for_each
from narrowkeys.words import LIMIT, is_ascending, is_integer, is_number

GREATEST = 10 ** 39


def are_weights(thing):
    if not isinstance(thing, (list, tuple)):
        return False
    return all([is_integer(one) and 1 <= one <= GREATEST for one in thing])


def is_pair(thing, many):
    return isinstance(thing, tuple) and len(thing) == 2 and all([is_number(one, many) for one in thing])


def are_pairs(thing, many):
    return isinstance(thing, (list, tuple)) and all([is_pair(one, many) for one in thing])


def ups_of(many, pairs):
    """For each of so many things the ascending list of the numbers of what stands above it."""
    ups = [[] for _ in range(many)]
    for low, high in sorted(set(pairs)):
        ups[low].append(high)
    return ups


def fault_of(weights, ups):
    """The least tuple (low, high) by which ups make no order of things with weights, or None."""
    for low, above in enumerate(ups):
        for high in sorted({top for middle in [low, *above] for top in ups[middle]}):
            if high not in above or high == low or weights[high] < weights[low]:
                return low, high
    return None


class Lot:
    """At most 48 things with the numbers 0, 1 and so on. It never changes."""

    def __init__(self, weights, pairs):
        if not are_weights(weights):
            raise Wrong(0)
        if not are_pairs(pairs, len(weights)):
            raise Wrong(1)
        if len(weights) > LIMIT:
            raise TooMany(LIMIT)
        ups = ups_of(len(weights), pairs)
        pair = fault_of(weights, ups)
        if pair is not None:
            raise NoOrder(pair)
        self._weights = list(weights)
        self._ups = ups
        self._order = Order(self._weights, ups)

    def __eq__(self, other):
        return isinstance(other, Lot) and self._weights == other._weights and self._ups == other._ups

    def __len__(self):
        return len(self._weights)

    def weights(self):
        return list(self._weights)

    def pairs(self):
        return [(low, high) for low, above in enumerate(self._ups) for high in above]

    def is_above(self, high, low):
        return self._order.is_above(high, low)

    def chains(self):
        return self._order.chains()

    def least_sum(self):
        return self._order.least()[1]

    def width(self):
        return self._order.least()[0]

    def levels(self):
        return self._order.counts()

    def apart_from(self, level):
        return self._order.apart_from(level)

    def paper(self):
        return self._order.paper()

    def is_chain(self, thing):
        """Whether any value is a list, not empty, of numbers, each next thing being above the one ahead."""
        if not isinstance(thing, list) or len(thing) == 0:
            return False
        if not all([is_number(one, len(self._weights)) for one in thing]):
            return False
        return all([self.is_above(high, low) for low, high in zip(thing, thing[1:])])

    def are_chains(self, thing):
        """Whether any value is a list of chains that have all things, of whatever sum."""
        if not isinstance(thing, list) or not all([self.is_chain(chain) for chain in thing]):
            return False
        return sorted([one for chain in thing for one in chain]) == list(range(len(self._weights)))

    def is_chains(self, thing):
        return self.are_chains(thing) and self._order.sum_of_tops(thing) == self.least_sum()

    def is_row(self, thing):
        """Whether any value is an ascending list of different things."""
        if not isinstance(thing, list) or not all([is_number(one, len(self._weights)) for one in thing]):
            return False
        return is_ascending(thing)

    def is_paper(self, thing):
        if not isinstance(thing, tuple) or len(thing) != 2:
            return False
        chains, lists = thing
        if not self.are_chains(chains) or not is_for_each(lists, self._order.levels()):
            return False
        if not all([self.is_row(one) for one in lists]):
            return False
        return self._order.proves(self._order.sum_of_tops(chains), lists)
