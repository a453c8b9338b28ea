"""A book of deeds: what is asked, which indexes stand and what columns weigh, behind each of them."""

from narrowkeys.asked import Asked
from narrowkeys.deeds import is_deed, state_behind
from narrowkeys.errors import Full, NoDeed, NoEntry, Nothing, Refused, Wrong
from narrowkeys.shelves import Shelf
from narrowkeys.standing import lacking, more_shelf
from narrowkeys.weights import Weights
from narrowkeys.words import is_number


class Advisor:
    """Keeps an Asked, a Shelf and Weights through deeds, which can be undone and done again.

    A state is a tuple of these three. The first one is that with which the Advisor was made, and there is
    one behind each deed that stands. What stands in a state is never changed, so that states are shared.
    """

    MOST = 200

    def __init__(self, asked, shelf):
        if not isinstance(asked, Asked):
            raise Wrong(0)
        if not isinstance(shelf, Shelf):
            raise Wrong(1)
        self._made = asked, shelf
        self._deeds = []
        self._states = [(asked, shelf, Weights({}))]
        # Tuples of a deed and the state behind it, the one that was undone last at the end.
        self._undone = []

    def __eq__(self, other):
        return isinstance(other, Advisor) and self._made == other._made and self._deeds == other._deeds

    def __len__(self):
        return len(self._deeds)

    @property
    def asked(self):
        return self._states[-1][0]

    @property
    def shelf(self):
        return self._states[-1][1]

    def weights(self):
        return self._states[-1][2].copied()

    def unserved(self):
        return lacking(self.asked, self.shelf)

    def advice(self):
        further = more_shelf(self.asked, self.shelf, weights=self.weights())
        return [("build", index) for index in further]

    def deeds(self):
        return list(self._deeds)

    def do(self, deed):
        if not is_deed(deed):
            raise NoDeed()
        if len(self._deeds) >= self.MOST:
            raise Full(self.MOST)
        state = state_behind(self._states[-1], deed)
        if state is None:
            raise Refused(deed)
        self._deeds.append(deed)
        self._states.append(state)
        self._undone = []

    def back(self):
        if len(self._deeds) == 0:
            raise Nothing()
        deed = self._deeds.pop()
        self._undone.append((deed, self._states.pop()))
        return deed

    def again(self):
        if len(self._undone) == 0:
            raise Nothing()
        deed, state = self._undone.pop()
        self._deeds.append(deed)
        self._states.append(state)
        return deed

    def past(self, many):
        if not is_number(many, len(self._deeds) + 1):
            raise NoEntry(many)
        asked, shelf = self._made
        found = Advisor(asked, shelf)
        found._deeds = self._deeds[:many]
        found._states = self._states[:many + 1]
        return found

    def copied(self):
        found = self.past(len(self._deeds))
        found._undone = list(self._undone)
        return found

    def trial(self, act):
        deeds, states, undone = list(self._deeds), list(self._states), list(self._undone)
        try:
            return act(self)
        finally:
            self._deeds, self._states, self._undone = deeds, states, undone
