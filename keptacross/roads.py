"""Roads: rows of books, each of which carries the page of the one ahead of it."""

from keptacross.books import Book
from keptacross.carrying import BEGINNING, checked_reading, finish, go_on
from keptacross.errors import BadRoad
from keptacross.rows import kept


def hand_on(book, standing, tokens):
    """What a book says for tokens that come with the pick 0, and its next standing."""
    page = []
    for token in tokens:
        _, said, standing = go_on(book, standing, token, 0)
        page.extend(said)
    return tuple(page), standing


def said_by_all(books, standings, word, pick):
    """What the last of some books says when a word comes to the first one, and their next standings."""
    _, said, first = go_on(books[0], standings[0], word, pick)
    behind = [first]
    for place in range(1, len(books)):
        said, standing = hand_on(books[place], standings[place], said)
        behind.append(standing)
    return said, tuple(behind)


def said_at_the_end(books, standings):
    """What the last of some books says at the end of the text."""
    said = ()
    for place, book in enumerate(books):
        # What the book ahead has held back comes to this one first, and then its own end.
        said, standing = hand_on(book, standings[place], said)
        said = said + finish(book, standing)[1]
    return said


class Road:
    """A road is a row of 1 to 3 books."""

    def __init__(self, *books):
        if not 1 <= len(books) <= 3:
            raise BadRoad(-1)
        for number, book in enumerate(books):
            if not isinstance(book, Book):
                raise BadRoad(number)
        self.books = books

    def __len__(self):
        return len(self.books)

    def __iter__(self):
        return iter(self.books)

    def __eq__(self, other):
        return isinstance(other, Road) and self.books == other.books

    def __add__(self, other):
        books = self.books + other.books
        return Road(*books)

    def __call__(self, reading):
        """The page of a reading."""
        reading = checked_reading(self.books[0].tongue, reading)
        standings = self.beginning
        page = []
        for word, pick in reading:
            said, standings = said_by_all(self.books, standings, word, pick)
            page.extend(said)
        return tuple(page) + said_at_the_end(self.books, standings)

    @property
    def picks(self):
        """The picks of its first book."""
        return self.books[0].picks

    @property
    def beginning(self):
        """Its standing at the beginning."""
        return tuple([BEGINNING for _ in self.books])

    def hear(self, standing, word, pick=0):
        """What is said when a word comes, and the next standing."""
        return said_by_all(self.books, kept(standing), word, pick)

    def finish(self, standing):
        """What is said at the end of the text."""
        return said_at_the_end(self.books, kept(standing))
