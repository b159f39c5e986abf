"""Roads that are alike in a style."""

from keptacross.judging import is_owed, is_road_standing, is_room_of, is_tuple_of, judged
from keptacross.outlooks import Walk
from keptacross.owing import NOTHING, compared, owed_behind, paired
from keptacross.rows import kept
from keptacross.styles import meet
from keptacross.unfolding import Unfolding


def pair_steps(left, right, pair):
    """The steps from a pair of numbers of states: the label, what both say, and the pair behind it."""
    return [((word, pick), said, other, (number, ahead)) for (word, pick, said, number), (_, _, other, ahead)
            in zip(left.follow(pair[0]), right.follow(pair[1]))]


def pairs_compared(left, right, pair):
    """All pairs of numbers of states that can come from a pair, and how they compare.

    Told are the pairs; what is owed at each of them, None if they are unlike; and the least reading behind which
    unlike things are said, None if there is none.
    """
    pairs, follows = paired(pair, lambda numbers: pair_steps(left, right, numbers))
    endings = [None if left.ending(one) is None else (left.ending(one), right.ending(other)) for one, other in pairs]
    owed, reading = compared(follows, endings)
    return pairs, owed, reading


class Alike:
    """Whether two roads are alike: then the table of what is owed, otherwise the least reading with unlike pages."""

    def __init__(self, first, second, style):
        meet(first.books[0].tongue, style)
        meet(second.books[0].tongue, style)
        many = max(first.picks, second.picks)
        left = Unfolding(first, style, many)
        right = Unfolding(second, style, many)
        pairs, owed, self.reading = pairs_compared(left, right, (0, 0))
        self.table = None
        if self.reading is None:
            self.table = tuple([(*left.state(one), right.state(other)[1], owing)
                                for (one, other), owing in zip(pairs, owed)])
        self._rows = () if self.table is None else self.table

    def __bool__(self):
        return self.reading is None

    def __len__(self):
        return len(self._rows)

    def __iter__(self):
        return iter(self._rows)


def checked_row(thing, first, second, style):
    """A row of a table, as tuples; None if the thing does not have the form of one."""
    if not is_tuple_of(thing, 4) or not is_room_of(thing[0], style) or not is_owed(thing[3]):
        return None
    return kept(thing) if is_road_standing(thing[1], first) and is_road_standing(thing[2], second) else None


def steps_from_row(left, right, row):
    """The rows behind a row, by the walks of both roads; where the pages part, None is owed."""
    room, one, other, owed = row
    rows = []
    for step, other_step in zip(left.steps((room, one)), right.steps((room, other))):
        leads, ahead = step[3]
        rows.append((leads, ahead, other_step[3][1], owed_behind(owed, step[2], other_step[2])))
    return rows


def judge_alike(first, second, style, table):
    """None if a table of what is owed is closed, otherwise the number of its first wrong row, or -1."""
    meet(first.books[0].tongue, style)
    meet(second.books[0].tongue, style)
    many = max(first.picks, second.picks)
    left = Walk(first, style, many)
    right = Walk(second, style, many)

    def holds(row, there):
        room, one, other, owed = row
        said = left.end((room, one))
        if said is not None and owed_behind(owed, said, right.end((room, other))) != NOTHING:
            return False
        return all([behind in there for behind in steps_from_row(left, right, row)])

    start = (0, first.beginning, second.beginning, NOTHING)
    return judged(table, lambda thing: checked_row(thing, first, second, style), [start], holds)
