"""Roads: rows of books, each of which carries the page of the one ahead of it."""

from keptacross.books import Book
from keptacross.carrying import BEGINNING, checked_reading, finish, go_on
from keptacross.errors import BadRoad
from keptacross.rows import kept


def hand_on(book, standing, tokens):
    """What a book says for tokens that come with the pick 0, and its next standing."""
    page = []
    for token in tokens:
        _, said, standing = go_on(book, standing, token, 0)
        page.extend(said)
    return tuple(page), standing


class Carrier:
    """Carries words along some books. It remembers what the books behind the first one have made of tokens.

    Standings are tuples throughout here.
    """

    def __init__(self, books):
        self._books = books
        self._handed = {}

    def _hand_on(self, place, standing, tokens):
        """What the book at a place says for tokens that come from the one ahead of it, and its next standing."""
        key = (place, standing, tokens)
        if key not in self._handed:
            self._handed[key] = hand_on(self._books[place], standing, tokens)
        return self._handed[key]

    def hear(self, standings, word, pick):
        """What the last book says when a word comes to the first one, and the next standings."""
        _, said, first = go_on(self._books[0], standings[0], word, pick)
        behind = [first]
        for place in range(1, len(self._books)):
            said, standing = self._hand_on(place, standings[place], said)
            behind.append(standing)
        return said, tuple(behind)

    def finish(self, standings):
        """What the last book says at the end of the text."""
        said = ()
        for place, standing in enumerate(standings):
            # What the book ahead has held back comes to this one first, and then its own end.
            said, behind = self._hand_on(place, standing, said)
            said = said + finish(self._books[place], behind)[1]
        return said


class Road:
    """A road is a row of 1 to 3 books."""

    def __init__(self, *books):
        if not 1 <= len(books) <= 3:
            raise BadRoad(-1)
        for number, book in enumerate(books):
            if not isinstance(book, Book):
                raise BadRoad(number)
        self.books = books

    def __len__(self):
        return len(self.books)

    def __iter__(self):
        return iter(self.books)

    def __eq__(self, other):
        return isinstance(other, Road) and self.books == other.books

    def __add__(self, other):
        books = self.books + other.books
        return Road(*books)

    def __call__(self, reading):
        """The page of a reading."""
        reading = checked_reading(self.books[0].tongue, reading)
        carrier = Carrier(self.books)
        standings = self.beginning
        page = []
        for word, pick in reading:
            said, standings = carrier.hear(standings, word, pick)
            page.extend(said)
        return tuple(page) + carrier.finish(standings)

    @property
    def picks(self):
        """The picks of its first book."""
        return self.books[0].picks

    @property
    def beginning(self):
        """Its standing at the beginning."""
        return tuple([BEGINNING for _ in self.books])

    def hear(self, standing, word, pick=0):
        """What is said when a word comes, and the next standing."""
        return Carrier(self.books).hear(kept(standing), word, pick)

    def finish(self, standing):
        """What is said at the end of the text."""
        return Carrier(self.books).finish(kept(standing))
