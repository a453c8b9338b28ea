"""Finite orders of things with weights, of however many things: what lots and lists of questions share."""

from narrowkeys.matching import apart_among, chains_of, linked
from narrowkeys.steps import levels_of, sum_of_steps


class Order:
    """Things with the numbers 0, 1 and so on. For each of them ups has the ascending list of those above it."""

    def __init__(self, weights, ups):
        self._weights = weights
        self._ups = ups

    def is_above(self, high, low):
        return high in self._ups[low]

    def links(self, ranks):
        """Links by which the tops have the least sum: the heavy things are linked ahead of the light ones.

        Among things of equal weight those go ahead for which ranks, a list, has less.
        """
        order = sorted(range(len(self._weights)), key=lambda thing: (-self._weights[thing], ranks[thing]))
        return linked(order, self._ups)

    def plain_links(self):
        return self.links([0] * len(self._weights))

    def chains_by(self, ranks):
        """Chains of the least sum. Among things of equal weight those with less in ranks are not tops if possible."""
        return chains_of(len(self._weights), self.links(ranks))

    def chains(self):
        return chains_of(len(self._weights), self.plain_links())

    def sum_of_tops(self, chains):
        return sum([self._weights[chain[-1]] for chain in chains])

    def least(self):
        """The least number of chains and the least sum of their tops: some chains have both."""
        links = self.plain_links()
        tops = [weight for thing, weight in enumerate(self._weights) if thing not in links]
        return len(tops), sum(tops)

    def levels(self):
        return levels_of(self._weights)

    def counts(self):
        """The tuples (t, W(t)). Chains of the least sum have just W(t) tops that weigh at least t at every level t."""
        links = self.plain_links()
        tops = [weight for thing, weight in enumerate(self._weights) if thing not in links]
        return [(level, len([top for top in tops if top >= level])) for level in self.levels()]

    def apart_by(self, links, levels):
        """For each of levels a list of as many things as possible that weigh as much and are apart."""
        heavy = [[thing for thing, weight in enumerate(self._weights) if weight >= level] for level in levels]
        return [apart_among(things, self._ups, links) for things in heavy]

    def apart_from(self, level):
        return self.apart_by(self.plain_links(), [level])[0]

    def paper(self):
        """Chains of the least sum, and for each level a list that is told by apart_from."""
        links = self.plain_links()
        return chains_of(len(self._weights), links), self.apart_by(links, self.levels())

    def are_apart(self, things, level):
        """Whether all of things, a list of numbers, weigh at least level and none is above another one."""
        chosen = set(things)
        if not all([self._weights[thing] >= level for thing in things]):
            return False
        return not any([high in chosen for low in things for high in self._ups[low]])

    def proves(self, paid, lists):
        """Whether lists, with a list of numbers for each level, show that chains cannot cost less than paid."""
        levels = self.levels()
        if not all([self.are_apart(things, level) for things, level in zip(lists, levels)]):
            return False
        return paid == sum_of_steps(levels, [len(things) for things in lists])
