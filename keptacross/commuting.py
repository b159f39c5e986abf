"""Changes that commute on a book, and on all books of a shelf."""

from keptacross.alike import Alike, pairs_compared
from keptacross.changes import changed_by, is_change
from keptacross.errors import BadChange
from keptacross.roads import Road
from keptacross.styles import meet
from keptacross.unfolding import Unfolding


class Commuting:
    """Whether two changes commute on a book: otherwise the least reading that shows that they do not."""

    def __init__(self, book, first, second, style):
        for change in (first, second):
            if not is_change(change):
                raise BadChange(change)
        one, _ = changed_by(book, (first, second))
        other, _ = changed_by(book, (second, first))
        self.reading = Alike(Road(one), Road(other), style).reading

    def __bool__(self):
        return self.reading is None


class ShelfComparer:
    """Compares books of a shelf, each two of them once."""

    def __init__(self, shelf, style):
        self._shelf = shelf
        self._style = style
        self._states = {}
        self._readings = {}

    def _states_of(self, number, many):
        """The states of a book, with so many picks."""
        key = (number, many)
        if key not in self._states:
            self._states[key] = Unfolding(Road(self._shelf[number]), self._style, many)
        return self._states[key]

    def unlike_reading(self, one, other):
        """The least reading with unlike pages of two books, None if they are alike."""
        pair = (min(one, other), max(one, other))
        if pair not in self._readings:
            many = max(self._shelf[one].picks, self._shelf[other].picks)
            left = self._states_of(pair[0], many)
            right = self._states_of(pair[1], many)
            self._readings[pair] = pairs_compared(left, right, (0, 0))[2]
        return self._readings[pair]


def book_behind(shelf, number, change):
    """The number of the book behind a change, from 1, of a book."""
    return shelf.follow(number)[change - 1][0]


def all_commute(shelf, style):
    """None if each two changes of the menu commute on each book of the shelf, otherwise the first that do not.

    Told are the number of the book, the pair of the numbers of the changes, and the least reading that shows it.
    """
    meet(shelf[0].tongue, style)
    comparer = ShelfComparer(shelf, style)
    pairs = [(k, m) for k in range(1, len(shelf.menu) + 1) for m in range(k + 1, len(shelf.menu) + 1)]
    for number in range(len(shelf)):
        for k, m in pairs:
            one = book_behind(shelf, book_behind(shelf, number, k), m)
            other = book_behind(shelf, book_behind(shelf, number, m), k)
            reading = comparer.unlike_reading(one, other)
            if reading is not None:
                return number, (k, m), reading
    return None
