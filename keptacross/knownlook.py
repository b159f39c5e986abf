"""Tables that show that a road knows a want: whether they are right in themselves."""

from keptacross.judging import is_owed, is_road_standing, is_room_of, is_tuple_of
from keptacross.known import SideWalk
from keptacross.owing import NOTHING, moved
from keptacross.roads import Road
from keptacross.rows import is_plain, is_row, kept
from keptacross.styles import meet
from keptacross.wants import check_want, meet_want


def is_want_standing(thing, want):
    """Whether the thing can be taken for the standing of a want."""
    return is_road_standing(thing, want) if isinstance(want, Road) else is_row(thing) and is_plain(thing)


def is_side(thing, road, want, style):
    """Whether the thing has the form of a side: nothing if it has ended, or a room and two standings."""
    if is_tuple_of(thing, 0):
        return True
    if not is_tuple_of(thing, 3) or not is_room_of(thing[0], style):
        return False
    return is_road_standing(thing[1], road) and is_want_standing(thing[2], want)


def first_dues(rows):
    """What is due by left, right and owed: of rows with the same the first one counts."""
    dues = {}
    for row in rows:
        if row is not None:
            dues.setdefault(row[:3], row[3])
    return dues


class RowJudge:
    """Judges the rows of a table, for a road, a want and a style."""

    def __init__(self, road, want, style, table):
        self._road = road
        self._want = want
        self._style = style
        self._walk = SideWalk(road, want, style)
        self._moves = {}
        self.rows = [self._checked(thing) for thing in table]
        self._dues = first_dues(self.rows)

    def _checked(self, thing):
        """A row, as tuples; None if the thing does not have the form of one."""
        if not is_tuple_of(thing, 4) or not is_owed(thing[2]) or not (thing[3] is None or is_owed(thing[3])):
            return None
        if not all([is_side(side, self._road, self._want, self._style) for side in thing[:2]]):
            return None
        return kept(thing)

    def is_first(self, row):
        """Whether a row can stand first in a table."""
        first = (0, self._road.beginning, self._want.beginning)
        return row is not None and row[:3] == (first, first, NOTHING) and row[3] in (NOTHING, None)

    def _moves_of(self, side):
        """The moves of a side: what is said, what is wanted, and the side behind it."""
        if side not in self._moves:
            found = []
            if side != ():
                found = [(said, due, ahead) for _, _, said, due, ahead in self._walk.steps(side)]
                end = self._walk.end(side)
                if end is not None:
                    found.append((*end, ()))
            self._moves[side] = found
        return self._moves[side]

    def _leads(self, key, due):
        """Whether a row of the table begins like this, and tells what is due then, None if nothing can be told."""
        if key not in self._dues:
            return False
        told = self._dues[key]
        return told is None or told == due

    def holds(self, row):
        """Whether nothing bars a row."""
        left, right, owed, due = row
        if row[:3] == ((), (), NOTHING):
            return due == NOTHING
        for place in (0, 1):
            # Only the side that has said less moves: nothing is owed to it.
            moves = self._moves_of(row[place]) if owed[place] == () else []
            for said, told, ahead in moves:
                behind = moved(owed, place, said)
                # Behind a row where nothing can be told, and where the wants part, nothing can be told either.
                then = None if due is None else moved(due, place, told)
                sides = (ahead, right) if place == 0 else (left, ahead)
                if behind is not None and not self._leads((*sides, behind), then):
                    return False
        return True


def judge_known(road, want, style, table):
    """None if a table is right in itself, otherwise the number of its first wrong row, or -1."""
    check_want(want)
    meet(road.books[0].tongue, style)
    meet_want(want, style)
    if not is_row(table) or len(table) == 0:
        return -1
    judge = RowJudge(road, want, style, table)
    if not judge.is_first(judge.rows[0]):
        return -1
    for number, row in enumerate(list(judge.rows)):
        if row is None or not judge.holds(row):
            return number
    return None
