"""Archives: pages that are kept without their sources, and renewed when the book has been changed."""

from keptacross.carrying import carried, text_of
from keptacross.changes import DONE, changed
from keptacross.errors import BadText, NoPlace, Unlike
from keptacross.roads import Road
from keptacross.rows import is_below
from keptacross.styles import meet
from keptacross.telling import told_by


class Archive:
    """Pages with the numbers of their editions, a style, and all books that there have been."""

    def __init__(self, style, book):
        meet(book.tongue, style)
        self.style = style
        self.books = (book,)
        self.pages = ()

    def __len__(self):
        return len(self.pages)

    def __iter__(self):
        return iter(self.pages)

    def __getitem__(self, n):
        if not is_below(n, len(self.pages)):
            raise NoPlace(n)
        return self.pages[n]

    @property
    def present(self):
        """The present book."""
        return self.books[-1]

    @present.setter
    def present(self, book):
        if book.tongue != self.books[-1].tongue:
            raise Unlike("tongues")
        if book != self.books[-1]:
            self.books = (*self.books, book)

    @property
    def editions(self):
        """All books that there have been, in order."""
        return self.books

    @property
    def stale(self):
        """The numbers of the pages whose edition is not the present one, ascending."""
        return tuple([number for number, (_, edition) in enumerate(self.pages) if edition != len(self.books) - 1])

    def enter(self, reading):
        """Keeps the page of a reading, and returns its number."""
        page = carried(self.books[-1], reading)
        if not self.style.reads(text_of(reading)):
            raise BadText(-1)
        self.pages = (*self.pages, (page, len(self.books) - 1))
        return len(self.pages) - 1

    def amend(self, change):
        """Changes the book, and returns whether the change is done, or why it is idle."""
        book, word = changed(self.books[-1], change)
        if word == DONE:
            self.books = (*self.books, book)
        return word

    def renew(self, n):
        """Renews a page, and returns whether it was of another edition."""
        page, edition = self[n]
        last = len(self.books) - 1
        if edition == last:
            return False
        told = told_by(Road(self.books[edition]), page, Road(self.books[last]), self.style)
        self.pages = (*self.pages[:n], (told, last), *self.pages[n + 1:])
        return True


def rebook(archive, book):
    """Makes a book the present one of an archive, and returns the number of editions."""
    archive.present = book
    return len(archive.editions)


class Saved:
    """What an archive had when a trial was begun, and what the trial had saved ahead of it."""

    def __init__(self, archive, ahead):
        self.books = archive.books
        self.pages = archive.pages
        self.ahead = ahead


class Trial:
    """A context in which an archive takes deeds; behind it the archive is as it was."""

    def __init__(self, archive):
        self.archive = archive
        self.saved = None

    def __enter__(self):
        # A trial can be begun again within itself: so what was saved ahead of it is kept, too.
        self.saved = Saved(self.archive, self.saved)
        return self.archive

    def __exit__(self, kind, value, trace):
        archive = self.archive
        archive.books = self.saved.books
        archive.pages = self.saved.pages
        self.saved = self.saved.ahead


def amended(archive, changes, n):
    """The words of some changes, done one after the other, and the page n when it is renewed then."""
    words = []
    for change in changes:
        words.append(archive.amend(change))
    archive.renew(n)
    return tuple(words), archive[n][0]


def tried(archive, changes, n):
    """The words of some changes, and the page n when it is renewed behind them; the archive is as it was."""
    if not is_below(n, len(archive)):
        raise NoPlace(n)
    with Trial(archive):
        return amended(archive, changes, n)


def tried_apart(archive, lots, n):
    """The page n, renewed behind each lot of changes by itself; the archive is as it was."""
    pages = []
    for changes in lots:
        _, page = tried(archive, changes, n)
        pages.append(page)
    return tuple(pages)


def tried_within(archive, lots, n):
    """The page n, renewed behind each lot of changes, which is done behind those ahead; the archive is as it was."""
    if len(lots) == 0:
        return ()
    if not is_below(n, len(archive)):
        raise NoPlace(n)
    with Trial(archive):
        _, page = amended(archive, lots[0], n)
        return (page, *tried_within(archive, lots[1:], n))
