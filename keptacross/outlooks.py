"""Outlooks: all that can come when texts of a style are carried along a road."""

from keptacross.errors import NoState, TooMany
from keptacross.rows import is_below, is_plain, kept
from keptacross.styles import meet


def steps_from(road, style, state):
    """The steps from a state: word, pick, what is said, and the state behind it."""
    room, standing = state
    steps = []
    for word, leads in style.let(room):
        for pick in range(road.picks):
            said, behind = road.hear(standing, word, pick)
            steps.append((word, pick, said, (leads, behind)))
    return steps


def gone_through(road, style, most):
    """The numbers of the states, as they are found, their steps, and how each of them is first come to."""
    states = [(0, road.beginning)]
    numbers = {states[0]: 0}
    arrivals = [None]
    follows = []
    while len(follows) < len(states):
        number = len(follows)
        follow = []
        for word, pick, said, state in steps_from(road, style, states[number]):
            if state not in numbers:
                if len(states) == most:
                    raise TooMany("standing")
                numbers[state] = len(states)
                states.append(state)
                arrivals.append((number, word, pick))
            follow.append((word, pick, said, numbers[state]))
        follows.append(tuple(follow))
    return numbers, follows, arrivals


class Outlook:
    """The states of a road and a style, in the order in which they are found."""

    MOST = 300

    def __init__(self, road, style):
        meet(road.books[0].tongue, style)
        self.road = road
        self.style = style
        self._numbers, self._follows, self._arrivals = gone_through(road, style, self.MOST)
        self._states = tuple(list(self._numbers))

    def __len__(self):
        return len(self._states)

    def __iter__(self):
        return iter(self._states)

    def __getitem__(self, n):
        return self._states[self._checked(n)]

    def _checked(self, n):
        """The number of a state; NoState if it is none."""
        if not is_below(n, len(self._states)):
            raise NoState(n)
        return n

    def follow(self, n):
        """The steps from a state: word, pick, what is said, and the number of the state behind it."""
        return self._follows[self._checked(n)]

    def way(self, n):
        """The least reading that leads to a state."""
        at = self._checked(n)
        reading = []
        while at != 0:
            at, word, pick = self._arrivals[at]
            reading.append((word, pick))
        return tuple(reading[::-1])

    def ending(self, n):
        """What is said at the end in a state, None if its room is no end."""
        room, standing = self._states[self._checked(n)]
        return self.road.finish(standing) if self.style.is_end(room) else None

    def place_of(self, state):
        """The number of a state, None if it is none."""
        return self._numbers.get(kept(state)) if is_plain(state) else None
