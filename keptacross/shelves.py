"""Shelves: all books that can come of a book by the changes of a menu."""

from keptacross.booktext import write_book
from keptacross.books import Book
from keptacross.changes import changed, is_change
from keptacross.errors import BadMenu, BadRow, NoBook
from keptacross.rows import is_below, is_row, kept
from keptacross.search import explored

MOST_CHANGES = 6
MOST_BOOKS = 60


def checked_menu(menu):
    """A menu, as tuples; BadMenu if it is none."""
    if not is_row(menu) or not 1 <= len(menu) <= MOST_CHANGES:
        raise BadMenu(-1)
    for number, change in enumerate(menu):
        if not is_change(change) or kept(change) in [kept(other) for other in menu[:number]]:
            raise BadMenu(number)
    return kept(menu)


class Finder:
    """Finds the books that come by the changes of a menu: by their lines, which are the same for equal books."""

    def __init__(self, book, menu):
        self._menu = menu
        self.start = write_book(book)
        self.books = {self.start: book}

    def steps(self, lines):
        """The steps from the book with these lines: whether the change is done, or why not, and the lines behind it."""
        book = self.books[lines]
        found = [changed(book, change) for change in self._menu]
        steps = []
        for behind, word in found:
            told = write_book(behind)
            self.books.setdefault(told, behind)
            steps.append((word, told))
        return steps


class Shelf:
    """The books that can come, in the order in which they are found."""

    def __init__(self, book, menu):
        self.menu = checked_menu(menu)
        finder = Finder(book, self.menu)
        self._numbers, self._follows, self._arrivals = explored([finder.start], finder.steps, MOST_BOOKS, "book")
        self._books = tuple([finder.books[lines] for lines in self._numbers])

    def __len__(self):
        return len(self._books)

    def __iter__(self):
        return iter(self._books)

    def __getitem__(self, n):
        return self._books[self._checked(n)]

    def _checked(self, n):
        """The number of a book; NoBook if it is none."""
        if not is_below(n, len(self._books)):
            raise NoBook(n)
        return n

    def follow(self, n):
        """For each change of the menu, the number of the book behind it, and whether it is done, or why not."""
        return tuple([(number, word) for word, number in self._follows[self._checked(n)]])

    def way(self, n):
        """The least row of changes that leads from the first book to a book."""
        number = self._checked(n)
        row = []
        while self._arrivals[number] is not None:
            number, place = self._arrivals[number]
            row.append(place + 1)
        return tuple(row[::-1])

    def after(self, row):
        """The number of the book behind a row of changes."""
        if not is_row(row):
            raise BadRow(-1)
        number = 0
        for place, change in enumerate(row):
            if not is_below(change, len(self.menu) + 1) or change == 0:
                raise BadRow(place)
            number = self._follows[number][change - 1][1]
        return number

    def place_of(self, book):
        """The number of a book, None if it is none of the shelf."""
        return self._numbers.get(write_book(book)) if isinstance(book, Book) else None
