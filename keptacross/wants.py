"""Wants: what is wanted of a text."""

from keptacross.carrying import plain_reading
from keptacross.errors import BadLot, BadWant
from keptacross.pieces import checked_text
from keptacross.roads import Carrier, Road
from keptacross.rows import is_lot, kept
from keptacross.styles import meet
from keptacross.words import is_word


class Words:
    """A want: of a text, the row of those of its words that are in a lot."""

    def __init__(self, lot):
        if not is_lot(lot, is_word):
            raise BadLot(lot)
        self.lot = kept(lot)

    def __len__(self):
        return len(self.lot)

    def __iter__(self):
        return iter(self.lot)

    def __contains__(self, word):
        return word in self.lot

    def __eq__(self, other):
        return isinstance(other, Words) and self.lot == other.lot

    @property
    def beginning(self):
        """Its standing at the beginning, and ever after."""
        return ()

    def hear(self, standing, word, pick=0):
        """What is wanted of a word, and the standing."""
        return ((word,) if word in self.lot else ()), ()

    def finish(self, standing):
        """What is wanted at the end: nothing more."""
        return ()


def is_want(thing):
    """Whether the thing is a want: a lot of words, or a road."""
    return isinstance(thing, Words) or isinstance(thing, Road)


def check_want(want):
    """BadWant if the thing is no want."""
    if not is_want(want):
        raise BadWant(want)


def meet_want(want, style):
    """Raises Foreign with the first word of the style that is none of the tongue of a want that is a road."""
    if isinstance(want, Road):
        meet(want.books[0].tongue, style)


def hearer_of(want):
    """What hears words for a want: the lot of words, or what carries along the road."""
    return Carrier(want.books) if isinstance(want, Road) else want


def wanted(want, text):
    """What is wanted of a text."""
    check_want(want)
    if isinstance(want, Words):
        return tuple([word for word in text if word in want])
    return want(plain_reading(checked_text(want.books[0].tongue, text)))
