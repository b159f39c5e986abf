"""Outlooks: all that can come when texts of a style are carried along a road."""

from keptacross.errors import NoState
from keptacross.roads import Carrier
from keptacross.rows import is_below, is_plain, kept
from keptacross.search import arrived, explored
from keptacross.styles import meet


class Walk:
    """The steps from states of a road and a style, with so many picks. Standings are tuples throughout here."""

    def __init__(self, road, style, many):
        self._carrier = Carrier(road.books)
        self._style = style
        self._many = many

    def steps(self, state):
        """The steps from a state: word, pick, what is said, and the state behind it."""
        room, standing = state
        found = []
        for word, leads in self._style.let(room):
            for pick in range(self._many):
                said, behind = self._carrier.hear(standing, word, pick)
                found.append((word, pick, said, (leads, behind)))
        return found

    def end(self, state):
        """What is said at the end in a state if its room is an end, otherwise None."""
        return self._carrier.finish(state[1]) if self._style.is_end(state[0]) else None


class Outlook:
    """The states of a road and a style, in the order in which they are found."""

    MOST = 300

    def __init__(self, road, style):
        meet(road.books[0].tongue, style)
        self.road = road
        self.style = style
        self._walk = Walk(road, style, road.picks)
        self._numbers, self._follows, self._arrivals = explored(
            [(0, road.beginning)], self._walk.steps, self.MOST, "standing")
        self._states = tuple(list(self._numbers))
        self._endings = {}

    def __len__(self):
        return len(self._states)

    def __iter__(self):
        return iter(self._states)

    def __getitem__(self, n):
        return self._states[self._checked(n)]

    def _checked(self, n):
        """The number of a state; NoState if it is none."""
        if not is_below(n, len(self._states)):
            raise NoState(n)
        return n

    def follow(self, n):
        """The steps from a state: word, pick, what is said, and the number of the state behind it."""
        return self._follows[self._checked(n)]

    def way(self, n):
        """The least reading that leads to a state."""
        return tuple([step[:2] for step in arrived(self._follows, self._arrivals, self._checked(n))])

    def ending(self, n):
        """What is said at the end in a state, None if its room is no end."""
        if self._checked(n) not in self._endings:
            self._endings[n] = self._walk.end(self._states[n])
        return self._endings[n]

    def place_of(self, state):
        """The number of a state, None if it is none."""
        return self._numbers.get(kept(state)) if is_plain(state) else None
