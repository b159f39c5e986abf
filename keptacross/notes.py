"""Notes at the end of ways, and the lots of terms whose notes cure a want."""

from keptacross.books import Book
from keptacross.errors import BadLot, TooMany
from keptacross.known import Known
from keptacross.roads import Road
from keptacross.rows import is_lot, is_row, kept
from keptacross.styles import meet
from keptacross.terms import Term
from keptacross.wants import check_want, meet_want

MOST_ITEMS = 6
MOST_TERMS = 4


def noted_way(way, name):
    """A way with the note of this name at its end; TooMany if it would be too long."""
    if len(way) >= MOST_ITEMS:
        raise TooMany("item")
    return (*way, "*" + name)


def noted_term(term):
    """The term with a note at the end of each of its ways, and of its first way."""
    ways = [noted_way(way, term.name) for way in term.ways]
    first = None if term.first is None else noted_way(term.first, term.name)
    return Term(term.name, term.pattern, ways, scope=term.scope, first=first, turn=term.turn)


def noted(book, lot):
    """The book in which the terms of a lot of names are noted."""
    names = book.names
    if not is_lot(lot, lambda name: name in names):
        raise BadLot(lot)
    terms = [noted_term(term) if term.name in lot else term for term in book.terms]
    return Book(book.tongue, terms, turns=book.turns)


def lots_of(things):
    """All lots of some things, in their order: the shorter ones first."""
    lots = [()]
    for thing in sorted(things):
        lots = lots + [(*lot, thing) for lot in lots]
    return [lot for many in range(len(things) + 1) for lot in sorted(lots) if len(lot) == many]


def least_of(lots):
    """Of some lots, in order, those of which no part is among them."""
    least = []
    for lot in lots:
        if not any([all([thing in lot for thing in part]) for part in least]):
            least.append(lot)
    return tuple(least)


class Notes:
    """For all lots of the terms of a book, whether their notes cure a want, and the least lots that do."""

    def __init__(self, book, want, style):
        check_want(want)
        meet(book.tongue, style)
        meet_want(want, style)
        if len(book) > MOST_TERMS:
            raise TooMany("term")
        lots = lots_of(book.names)
        roads = [Road(noted(book, lot)) for lot in lots]
        self.table = tuple([(lot, Known(road, want, style).pair) for lot, road in zip(lots, roads)])
        self._curing = [lot for lot, pair in self.table if pair is None]
        self._least = least_of(self._curing)

    def __len__(self):
        return len(self._least)

    def __iter__(self):
        return iter(self._least)

    def __bool__(self):
        return bool(len(self._least) > 0)

    def __contains__(self, lot):
        return is_row(lot) and kept(lot) in self._curing
