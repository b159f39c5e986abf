"""Handing over: hands that carry pieces of one text, the papers that they hand over, and pieces that are prepared."""

from keptacross.carrying import BEGINNING, checked_reading, cut_all, finish, go_on
from keptacross.errors import BadLot, Unlike
from keptacross.outlooks import Outlook
from keptacross.roads import Road
from keptacross.rows import is_lot, kept
from keptacross.works import checked_work

THINGS = ("held", "scope", "turn", "used")


def checked_lot(lot):
    """A lot of things, as a tuple; BadLot if it is none."""
    if not is_lot(lot, lambda thing: thing in THINGS):
        raise BadLot(lot)
    return kept(lot)


def paper_of(standing, lot):
    """What a standing has for the things of a lot."""
    chapter, quoted, met, used, turn, held = standing
    worth = {"held": held, "scope": (chapter, quoted, met), "turn": turn, "used": used}
    return tuple([worth[thing] for thing in lot])


def hand_over(book, standing, lot):
    """Does what handed does, for a standing and a lot that are tuples throughout."""
    if "held" in lot:
        return (), paper_of(standing, lot)
    _, said, known, held = cut_all(book, standing[:5], standing[5], ended=True)
    return said, paper_of(known + (held,), lot)


def standing_from(paper, lot):
    """Does what taken does, for a paper and a lot that are tuples throughout."""
    worth = dict(zip(THINGS, paper_of(BEGINNING, THINGS)))
    worth.update(dict(zip(lot, paper)))
    return (*worth["scope"], worth["used"], worth["turn"], worth["held"])


def handed(book, standing, lot):
    """What is said at a cut, and the paper that is handed over."""
    things = checked_lot(lot)
    return hand_over(book, kept(standing), things)


def taken(paper, lot):
    """The standing with which the next hand begins."""
    things = checked_lot(lot)
    return standing_from(kept(paper), things)


def said_along(book, standing, reading):
    """What a hand says for the words of a reading, and its standing then."""
    page = []
    for word, pick in reading:
        _, said, standing = go_on(book, standing, word, pick)
        page.extend(said)
    return tuple(page), standing


def by_hands(book, chapters, lot):
    """What the hands say for the chapters of a work, one hand for each, as one row."""
    work = checked_work(book.tongue, chapters)
    things = checked_lot(lot)
    page, standing = said_along(book, BEGINNING, work[0])
    for chapter in work[1:]:
        at_cut, paper = hand_over(book, standing, things)
        said, standing = said_along(book, standing_from(paper, things), chapter)
        page = page + at_cut + said
    return page + finish(book, standing)[1]


class Prepared:
    """A piece that is prepared by its hand before the paper is there."""

    def __init__(self, book, reading, lot):
        self.readings = (checked_reading(book.tongue, reading),)
        self.lot = checked_lot(lot)
        self.book = book

    def __call__(self, paper):
        """What is said with this paper, also at the cut behind the piece, and the paper that is handed on."""
        page = ()
        going = kept(paper)
        for reading in self.readings:
            said, standing = said_along(self.book, standing_from(going, self.lot), reading)
            at_cut, going = hand_over(self.book, standing, self.lot)
            page = page + said + at_cut
        return page, going

    def __add__(self, other):
        if self.book != other.book:
            raise Unlike("books")
        if self.lot != other.lot:
            raise Unlike("lots")
        return Joined(self.book, self.readings + other.readings, self.lot)

    def __len__(self):
        return len(self.readings)

    def __iter__(self):
        return iter(self.readings)


class Joined(Prepared):
    """Several prepared pieces that are joined. What they are made of was judged when each of them was prepared."""

    def __init__(self, book, readings, lot):
        self.book = book
        self.readings = readings
        self.lot = lot


def papers(book, style, lot):
    """All papers that can be handed over at a cut between two words, ascending."""
    things = checked_lot(lot)
    outlook = Outlook(Road(book), style)
    # Some word stands ahead of the cut, and some word can come behind it.
    behind = sorted(set([step[3] for number in range(len(outlook)) for step in outlook.follow(number)]))
    found = [hand_over(book, outlook[number][1][0], things)[1] for number in behind
             if len(style.let(outlook[number][0])) > 0]
    return tuple(sorted(set(found)))
