"""Carrying a text with a book, in one go and word by word.

What is known while a text is carried is the row (chapter, quoted, met, used, turn);
a standing is this row with the words that are held back, and their picks, behind it.
"""

from keptacross.errors import BadReading
from keptacross.rows import is_below, is_row, kept
from keptacross.wordmaps import followed, image
from keptacross.words import GAP, is_word

BEGINNING = ("", 0, (), (), (), ())
MOST_ITEMS = 3


def holds(scope, known):
    """Whether a term in this scope holds where these things are known."""
    chapter, quoted, met, _, _ = known
    if scope[0] == "in":
        return chapter == scope[1]
    if scope[0] == "behind":
        return scope[1] in met
    if scope[0] == "plain":
        return quoted == 0
    if scope[0] == "quoted":
        return quoted == 1
    return True


def begins(pattern, rest):
    """Whether the items of a pattern fit the tokens of the rest, as far as both go."""
    return all([item in (GAP, pair[0]) for item, pair in zip(pattern, rest)])


def fitting(book, known, rest):
    """The terms that hold and fit at the beginning of the rest, in rank."""
    return [term for term in book.starting.get(rest[0][0], ())
            if len(term.pattern) <= len(rest) and begins(term.pattern, rest) and holds(term.scope, known)]


def waits(book, known, held):
    """Whether a term may still come of the held words, if more words come."""
    return any([len(term.pattern) > len(held) and begins(term.pattern, held) and holds(term.scope, known)
                for term in book.starting.get(held[0][0], ())])


def foremost(terms):
    """Of terms in rank, the longest one, and of several the first one; None if there are none."""
    best = None
    for term in terms:
        if best is None or len(term.pattern) > len(best.pattern):
            best = term
    return best


def plainly(book, known, token):
    """What a word in a gap is plainly rendered by."""
    for term in book.terms:
        if term.pattern == (token,) and holds(term.scope, known):
            return term.ways[0]
    return (token,)


def way_of(book, term, known, rest):
    """What a term says for the beginning of the rest, ahead of any turn."""
    if term.first is not None and term.name not in known[3]:
        way = term.first
    else:
        way = term.ways[rest[0][1] % len(term.ways)]
    if not term.gap:
        return way
    place = way.index(GAP)
    return way[:place] + plainly(book, known, rest[1][0]) + way[place + 1:]


def turned_by(turn, said):
    """What is said when a turn waits, and the turn that waits then."""
    if turn == ():
        return said, turn
    for place, token in enumerate(said):
        if is_word(token):
            return said[:place] + (image(turn, token),) + said[place + 1:], ()
    return said, turn


def passed(book, known, token):
    """What is known when a token has been passed."""
    chapter, quoted, met, used, turn = known
    if token in book.tongue.headings:
        return (token, 0, (), (), turn)
    if token == book.tongue.quote:
        quoted = 1 - quoted
    if token in book.watched and token not in met:
        met = tuple(sorted(met + (token,)))
    return (chapter, quoted, met, used, turn)


def cut(book, known, rest):
    """The piece at the beginning of the rest, and what is known then.

    The piece is told as the terms that hold and fit, in rank; the one of them that is used, or None; the width;
    and what is said.
    """
    ready = fitting(book, known, rest)
    term = foremost(ready)
    chapter, quoted, met, used, turn = known
    if term is None:
        width = 1
        said, turn = turned_by(turn, (rest[0][0],))
    else:
        width = len(term.pattern)
        said, turn = turned_by(turn, way_of(book, term, known, rest))
        if term.first is not None and term.name not in used:
            used = tuple(sorted(used + (term.name,)))
        if term.turn is not None:
            turn = followed(turn, book.turn_of(term.name).pairs)
    known = (chapter, quoted, met, used, turn)
    for token, _ in rest[:width]:
        known = passed(book, known, token)
    return (ready, term, width, said), known


def cut_pieces(book, known, rest, *, ended):
    """Cuts pieces from the rest: all of it if the text is ended, otherwise as long as no term waits.

    Returns the pieces, what is known then, and what is held back.
    """
    found = []
    place = 0
    while place < len(rest):
        # No term looks further than its own items.
        ahead = rest[place:place + MOST_ITEMS]
        if not ended and waits(book, known, ahead):
            break
        piece, known = cut(book, known, ahead)
        found.append(piece)
        place = place + piece[2]
    return found, known, rest[place:]


def name_of(term):
    """The name of a term, None for the one of a kept word."""
    return None if term is None else term.name


def cut_all(book, known, rest, *, ended):
    """Cuts pieces: the names of their terms, what is said, what is known then, and what is held back."""
    found, known, held = cut_pieces(book, known, rest, ended=ended)
    names = []
    page = []
    for _, term, _, said in found:
        names.append(name_of(term))
        page.extend(said)
    return tuple(names), tuple(page), known, held


def go_on(book, standing, token, pick):
    """Does what hear does, for a standing that is told by tuples alone."""
    names, said, known, held = cut_all(book, standing[:5], standing[5] + ((token, pick),), ended=False)
    return names, said, known + (held,)


def hear(book, standing, token, pick=0):
    """The names of the terms by which pieces are cut when a token comes, what is said, and the next standing."""
    return go_on(book, kept(standing), token, pick)


def finish(book, standing):
    """The names of the terms by which pieces are cut at the end of the text, and what is said there."""
    standing = kept(standing)
    names, said, _, _ = cut_all(book, standing[:5], standing[5], ended=True)
    return names, said


def is_pick_of(thing, tongue):
    """Whether the thing is a pair of a word of the tongue and a pick."""
    return is_row(thing) and len(thing) == 2 and thing[0] in tongue.words and is_below(thing[1], 3)


def checked_reading(tongue, reading):
    """A reading of words of a tongue, as tuples; BadReading if it is none."""
    if not is_row(reading) or len(reading) > 60:
        raise BadReading(-1)
    for number, pair in enumerate(reading):
        if not is_pick_of(pair, tongue):
            raise BadReading(number)
    return kept(reading)


def carried(book, reading):
    """The page of a reading, which is carried in one go."""
    rest = checked_reading(book.tongue, reading)
    return cut_all(book, BEGINNING[:5], rest, ended=True)[1]


def plain_reading(text):
    """The reading of a text with all picks 0."""
    return tuple([(word, 0) for word in text])


def text_of(reading):
    """The text of a reading."""
    return tuple([word for word, _ in reading])
