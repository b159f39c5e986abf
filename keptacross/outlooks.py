"""Outlooks: all that can come when texts of a style are carried along a road."""

from keptacross.errors import NoState
from keptacross.roads import said_at_the_end, said_by_all
from keptacross.rows import is_below, is_plain, kept
from keptacross.search import arrived, explored
from keptacross.styles import meet


def steps_from(road, style, state, many):
    """The steps from a state, with so many picks: word, pick, what is said, and the state behind it."""
    room, standing = state
    steps = []
    for word, leads in style.let(room):
        for pick in range(many):
            said, behind = said_by_all(road.books, standing, word, pick)
            steps.append((word, pick, said, (leads, behind)))
    return steps


def ending_of(road, style, state):
    """What is said at the end in a state if its room is an end, otherwise None."""
    return said_at_the_end(road.books, state[1]) if style.is_end(state[0]) else None


class Outlook:
    """The states of a road and a style, in the order in which they are found."""

    MOST = 300

    def __init__(self, road, style):
        meet(road.books[0].tongue, style)
        self.road = road
        self.style = style
        self._numbers, self._follows, self._arrivals = explored(
            [(0, road.beginning)], lambda state: steps_from(road, style, state, road.picks), self.MOST, "standing")
        self._states = tuple(list(self._numbers))
        self._endings = {}

    def __len__(self):
        return len(self._states)

    def __iter__(self):
        return iter(self._states)

    def __getitem__(self, n):
        return self._states[self._checked(n)]

    def _checked(self, n):
        """The number of a state; NoState if it is none."""
        if not is_below(n, len(self._states)):
            raise NoState(n)
        return n

    def follow(self, n):
        """The steps from a state: word, pick, what is said, and the number of the state behind it."""
        return self._follows[self._checked(n)]

    def way(self, n):
        """The least reading that leads to a state."""
        return tuple([step[:2] for step in arrived(self._follows, self._arrivals, self._checked(n))])

    def ending(self, n):
        """What is said at the end in a state, None if its room is no end."""
        if self._checked(n) not in self._endings:
            self._endings[n] = ending_of(self.road, self.style, self._states[n])
        return self._endings[n]

    def place_of(self, state):
        """The number of a state, None if it is none."""
        return self._numbers.get(kept(state)) if is_plain(state) else None
