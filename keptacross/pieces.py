"""The pieces into which a reading is cut, and the terms that hold and fit at any place of a text."""

from keptacross.carrying import BEGINNING, MOST_ITEMS, checked_reading, cut_pieces, fitting, name_of, passed
from keptacross.errors import BadText, NoPlace
from keptacross.rows import is_below, is_row, kept

MOST_WORDS = 60


def pieces(book, reading):
    """The pieces of a reading: place, width, name of the term or None, and what is said."""
    found = []
    place = 0
    for _, term, width, said in cut_pieces(book, BEGINNING[:5], checked_reading(book.tongue, reading), ended=True)[0]:
        found.append((place, width, name_of(term), said))
        place = place + width
    return tuple(found)


def checked_text(tongue, text):
    """A text of words of a tongue, as a tuple; BadText if it is none."""
    if not is_row(text) or len(text) > MOST_WORDS:
        raise BadText(-1)
    for number, word in enumerate(text):
        if word not in tongue:
            raise BadText(number)
    return kept(text)


def holding(book, text, place):
    """The names of the terms that hold and fit at a place of a text, also within a piece, the longest ones first."""
    words = checked_text(book.tongue, text)
    if not is_below(place, len(words)):
        raise NoPlace(place)
    known = BEGINNING[:5]
    for word in words[:place]:
        known = passed(book, known, word)
    ready = fitting(book, known, [(word, 0) for word in words[place:]])
    return tuple([term.name for width in range(MOST_ITEMS, 0, -1) for term in ready if len(term) == width])
