"""Terms that are needless in a style."""

from keptacross.alike import pairs_compared
from keptacross.books import Book
from keptacross.errors import NoTerm
from keptacross.roads import Road
from keptacross.styles import meet
from keptacross.unfolding import Unfolding


def book_without(book, name):
    """The book without a term."""
    if name not in book:
        raise NoTerm(name)
    return Book(book.tongue, tuple([term for term in book.terms if term.name != name]), turns=book.turns)


class Comparer:
    """Compares a book with others that have its tongue and at most its picks, in a style."""

    def __init__(self, book, style):
        meet(book.tongue, style)
        self._style = style
        self._many = book.picks
        self._states = Unfolding(Road(book), style, self._many)

    def is_alike(self, other):
        """Whether the other book is alike, as roads of one book are."""
        return pairs_compared(self._states, Unfolding(Road(other), self._style, self._many), (0, 0))[2] is None


def needless(book, style):
    """The names of the terms that are needless, in rank."""
    comparer = Comparer(book, style)
    return tuple([name for name in book.names if comparer.is_alike(book_without(book, name))])


def lean(book, style):
    """The book that is left when needless terms are left out, one by one, the last one first."""
    comparer = Comparer(book, style)
    left = book
    names = list(book.names)
    while len(names) > 0:
        candidate = book_without(left, names.pop())
        if comparer.is_alike(candidate):
            left = candidate
            names = list(left.names)
    return left
