"""Seams: whether a lot of things is enough to be handed over, for all readings and all cuts."""

from keptacross.carrying import BEGINNING, finish, go_on
from keptacross.handover import THINGS, checked_lot, hand_over, standing_from
from keptacross.judging import is_owed, is_room_of, is_standing, is_tuple_of, judged
from keptacross.notes import lots_of
from keptacross.owing import NOTHING, compared, owed_behind, paired
from keptacross.rows import kept
from keptacross.styles import meet

START = (0, BEGINNING, BEGINNING)


class Hearing:
    """What a book says for words; what has been heard in a standing once is remembered."""

    def __init__(self, book):
        self.book = book
        self._heard = {}

    def hear(self, standing, word, pick):
        """What is said when a word comes, and the next standing."""
        key = (standing, word, pick)
        if key not in self._heard:
            self._heard[key] = go_on(self.book, standing, word, pick)[1:]
        return self._heard[key]


class SeamWalk:
    """The steps from triples of a room and the standings of the whole and of the hand whose piece it is."""

    def __init__(self, hearing, style, lot, headings):
        self._hearing = hearing
        self._book = hearing.book
        self._style = style
        self._lot = lot
        self._headings = headings

    def _begun_anew(self, standing):
        """What is said at a cut, and the standing with which the next hand begins."""
        said, paper = hand_over(self._book, standing, self._lot)
        return said, standing_from(paper, self._lot)

    def steps(self, triple):
        """The steps from a triple: the label, what the whole and the hands say, and the triple behind it.

        A cut ahead of all words changes nothing: so nobody has to ask whether a word stands ahead of it.
        """
        room, whole, apart = triple
        at_cut, begun = self._begun_anew(apart)
        found = []
        for word, leads in self._style.let(room):
            cuts = [(0, (), apart)]
            if not self._headings or word in self._book.tongue.headings:
                cuts.append((1, at_cut, begun))
            for pick in range(self._book.picks):
                said, ahead = self._hearing.hear(whole, word, pick)
                for cut, before, standing in cuts:
                    other, behind = self._hearing.hear(standing, word, pick)
                    found.append(((word, pick, cut), said, before + other, (leads, ahead, behind)))
        return found

    def end(self, triple):
        """What the whole and the last hand say at the end, None if the text cannot end there."""
        room, whole, apart = triple
        if not self._style.is_end(room):
            return None
        return finish(self._book, whole)[1], finish(self._book, apart)[1]


def gone_along(walk):
    """All triples that can come, and what is owed at each; or the least row of steps behind which pages are unlike."""
    triples, follows = paired(START, walk.steps)
    owed, row = compared(follows, [walk.end(triple) for triple in triples])
    return triples, owed, row


class Seams:
    """Whether a lot is enough: then the table of what is owed, otherwise the least row of steps that shows it."""

    def __init__(self, book, style, lot, *, headings=False):
        things = checked_lot(lot)
        meet(book.tongue, style)
        triples, owed, self.row = gone_along(SeamWalk(Hearing(book), style, things, headings))
        self.table = None
        if self.row is None:
            self.table = tuple([(*triple, owing) for triple, owing in zip(triples, owed)])

    def __bool__(self):
        return self.row is None


def least_lots(book, style, *, headings=False):
    """The least lots of things that are enough, in order."""
    meet(book.tongue, style)
    hearing = Hearing(book)
    least = []
    for lot in lots_of(THINGS):
        if not any([all([thing in lot for thing in part]) for part in least]):
            _, _, row = gone_along(SeamWalk(hearing, style, lot, headings))
            if row is None:
                least.append(lot)
    return tuple(least)


def checked_row(thing, style):
    """A row of a table, as tuples; None if the thing does not have the form of one."""
    if not is_tuple_of(thing, 4) or not is_room_of(thing[0], style) or not is_owed(thing[3]):
        return None
    return kept(thing) if is_standing(thing[1]) and is_standing(thing[2]) else None


def judge_seams(book, style, lot, table, *, headings=False):
    """None if a table of what is owed is closed, otherwise the number of its first wrong row, or -1."""
    things = checked_lot(lot)
    meet(book.tongue, style)
    walk = SeamWalk(Hearing(book), style, things, headings)

    def holds(row, there):
        triple, owed = row[:3], row[3]
        end = walk.end(triple)
        if end is not None and owed_behind(owed, end[0], end[1]) != NOTHING:
            return False
        return all([(*behind, owed_behind(owed, one, other)) in there for _, one, other, behind in walk.steps(triple)])

    return judged(table, lambda thing: checked_row(thing, style), [(*START, NOTHING)], holds)
