"""Works: rows of chapters, and the words and chapters that are turned when a book takes the place of another one."""

from keptacross.carrying import BEGINNING, checked_reading, cut_pieces, name_of
from keptacross.errors import BadReading, BadWork, Unlike
from keptacross.rows import is_row

MOST_CHAPTERS = 6


def checked_work(tongue, chapters):
    """The chapters of a work, as tuples; BadWork if they are none."""
    if not is_row(chapters) or not 1 <= len(chapters) <= MOST_CHAPTERS:
        raise BadWork(-1)
    found = []
    for number, chapter in enumerate(chapters):
        try:
            found.append(checked_reading(tongue, chapter))
        except BadReading:
            raise BadWork(number) from None
    return tuple(found)


def pieces_by_word(book, reading):
    """For each word of a reading of any length, the piece to which it belongs."""
    found = []
    for _, term, width, said in cut_pieces(book, BEGINNING[:5], reading, ended=True)[0]:
        piece = (len(found), width, name_of(term), said)
        found.extend([piece] * width)
    return found


def turned_places(old, new, reading):
    """The places of the words whose pieces are not the same with both books."""
    both = list(zip(pieces_by_word(old, reading), pieces_by_word(new, reading)))
    return [place for place, (one, other) in enumerate(both) if one != other]


def check_tongues(old, new):
    """Unlike, unless both books have the same tongue."""
    if old.tongue != new.tongue:
        raise Unlike("tongues")


def turned(old, new, reading):
    """The places of the words that are turned, ascending."""
    check_tongues(old, new)
    return tuple(turned_places(old, new, checked_reading(old.tongue, reading)))


def turned_chapters(old, new, chapters):
    """The numbers of the chapters of a work in which words are turned, ascending."""
    check_tongues(old, new)
    work = checked_work(old.tongue, chapters)
    numbers = [number for number, chapter in enumerate(work) for _ in chapter]
    text = tuple([pair for chapter in work for pair in chapter])
    return tuple(sorted(set([numbers[place] for place in turned_places(old, new, text)])))
