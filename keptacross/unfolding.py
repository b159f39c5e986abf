"""The states of a road and a style, as far as they are asked for: nothing bounds their number."""

from keptacross.outlooks import Walk


class Unfolding:
    """States that are numbered when they are found, with so many picks; told as an outlook tells them."""

    def __init__(self, road, style, many):
        self._walk = Walk(road, style, many)
        self._states = [(0, road.beginning)]
        self._numbers = {self._states[0]: 0}
        self._follows = {}
        self._endings = {}

    def state(self, n):
        """The state with a number."""
        return self._states[n]

    def _number_of(self, state):
        """The number of a state, a new one if it was not there."""
        if state not in self._numbers:
            self._numbers[state] = len(self._states)
            self._states.append(state)
        return self._numbers[state]

    def follow(self, n):
        """The steps from a state: word, pick, what is said, and the number of the state behind it."""
        if n not in self._follows:
            steps = list(self._walk.steps(self._states[n]))
            self._follows[n] = [(word, pick, said, self._number_of(state)) for word, pick, said, state in steps]
        return self._follows[n]

    def ending(self, n):
        """What is said at the end in a state, None if its room is no end."""
        if n not in self._endings:
            self._endings[n] = self._walk.end(self._states[n])
        return self._endings[n]
