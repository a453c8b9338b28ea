"""Finite orders of things with weights: chains of the least sum, and things that are apart."""

from narrowkeys.errors import NoOrder, TooMany, Wrong
from narrowkeys.matching import apart_among, chains_of, linked
from narrowkeys.steps import levels_of, sum_of_steps
from narrowkeys.words import LIMIT, is_integer

GREATEST = 10 ** 39


def is_number(thing, many):
    """Whether thing, any value, is the number of one of so many things."""
    return is_integer(thing) and 0 <= thing < many


def are_weights(thing):
    if not isinstance(thing, (list, tuple)):
        return False
    return all([is_integer(one) and 1 <= one <= GREATEST for one in thing])


def is_pair(thing, many):
    return isinstance(thing, tuple) and len(thing) == 2 and all([is_number(one, many) for one in thing])


def are_pairs(thing, many):
    return isinstance(thing, (list, tuple)) and all([is_pair(one, many) for one in thing])


def is_ascending(numbers):
    """Whether numbers, a list, has each number once, in ascending order."""
    return all([one < other for one, other in zip(numbers, numbers[1:])])


def ups_of(many, pairs):
    """For each of so many things the ascending list of the numbers of what stands above it."""
    ups = [[] for _ in range(many)]
    for low, high in sorted(set(pairs)):
        ups[low].append(high)
    return ups


def fault_of(weights, ups):
    """The least tuple (low, high) by which ups make no order of things with weights, or None."""
    for low, above in enumerate(ups):
        for high in sorted({top for middle in [low, *above] for top in ups[middle]}):
            if high not in above or high == low or weights[high] < weights[low]:
                return low, high
    return None


class Lot:
    """At most 48 things with the numbers 0, 1 and so on. It never changes."""

    def __init__(self, weights, pairs):
        if not are_weights(weights):
            raise Wrong(0)
        if not are_pairs(pairs, len(weights)):
            raise Wrong(1)
        if len(weights) > LIMIT:
            raise TooMany(LIMIT)
        ups = ups_of(len(weights), pairs)
        pair = fault_of(weights, ups)
        if pair is not None:
            raise NoOrder(pair)
        self._weights = list(weights)
        self._ups = ups

    def __eq__(self, other):
        return isinstance(other, Lot) and self._weights == other._weights and self._ups == other._ups

    def __len__(self):
        return len(self._weights)

    def weights(self):
        return list(self._weights)

    def pairs(self):
        return [(low, high) for low, above in enumerate(self._ups) for high in above]

    def is_above(self, high, low):
        return high in self._ups[low]

    def links(self, ranks):
        """Links by which the tops have the least sum: the heavy things are linked ahead of the light ones.

        Among things of equal weight those go ahead for which ranks, a list, has less.
        """
        order = sorted(range(len(self._weights)), key=lambda thing: (-self._weights[thing], ranks[thing]))
        return linked(order, self._ups)

    def chains_by(self, ranks):
        """Chains of the least sum. Among things of equal weight those with less in ranks are not tops if possible."""
        return chains_of(len(self._weights), self.links(ranks))

    def chains(self):
        return self.chains_by([0] * len(self._weights))

    def sum_of_tops(self, chains):
        return sum([self._weights[chain[-1]] for chain in chains])

    def least_sum(self):
        return self.sum_of_tops(self.chains())

    def width(self):
        return len(self.chains())

    def levels(self):
        """The chains have just W(t) tops that weigh at least t at every level t."""
        tops = [self._weights[chain[-1]] for chain in self.chains()]
        return [(level, len([top for top in tops if top >= level])) for level in levels_of(self._weights)]

    def apart_lists(self, levels):
        """For each of levels a list of as many things as possible that weigh as much and are apart."""
        links = self.links([0] * len(self._weights))
        heavy = [[thing for thing, weight in enumerate(self._weights) if weight >= level] for level in levels]
        return [apart_among(things, self._ups, links) for things in heavy]

    def apart_from(self, level):
        return self.apart_lists([level])[0]

    def paper(self):
        return self.chains(), self.apart_lists(levels_of(self._weights))

    def is_chain(self, thing):
        """Whether any value is a list, not empty, of numbers, each next thing being above the one ahead."""
        if not isinstance(thing, list) or len(thing) == 0:
            return False
        if not all([is_number(one, len(self._weights)) for one in thing]):
            return False
        return all([self.is_above(high, low) for low, high in zip(thing, thing[1:])])

    def are_chains(self, thing):
        """Whether any value is a list of chains that have all things, of whatever sum."""
        if not isinstance(thing, list) or not all([self.is_chain(chain) for chain in thing]):
            return False
        return sorted([one for chain in thing for one in chain]) == list(range(len(self._weights)))

    def is_chains(self, thing):
        return self.are_chains(thing) and self.sum_of_tops(thing) == self.least_sum()

    def is_apart_list(self, thing, level):
        """Whether any value is an ascending list of things that weigh at least level and are apart."""
        if not isinstance(thing, list) or not all([is_number(one, len(self._weights)) for one in thing]):
            return False
        if not is_ascending(thing) or not all([self._weights[one] >= level for one in thing]):
            return False
        return not any([self.is_above(high, low) for low in thing for high in thing])

    def is_paper(self, thing):
        if not isinstance(thing, tuple) or len(thing) != 2:
            return False
        chains, lists = thing
        levels = levels_of(self._weights)
        if not self.are_chains(chains) or not isinstance(lists, list) or len(lists) != len(levels):
            return False
        if not all([self.is_apart_list(one, level) for one, level in zip(lists, levels)]):
            return False
        return self.sum_of_tops(chains) == sum_of_steps(levels, [len(one) for one in lists])
