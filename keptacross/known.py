"""Whether a road knows a want: whether each page alone tells what is wanted of its text."""

from keptacross.owing import NOTHING, moved
from keptacross.roads import Carrier
from keptacross.search import explored, reaching
from keptacross.styles import meet
from keptacross.wants import check_want, hearer_of, meet_want

MOST_SIDES = 300
MOST_ROWS = 2000
ENDED = -1


class SideWalk:
    """The steps from sides of a road, a want and a style. Standings are tuples throughout here."""

    def __init__(self, road, want, style):
        self._carrier = Carrier(road.books)
        self._many = road.picks
        self._hearer = hearer_of(want)
        self._style = style

    def steps(self, side):
        """The steps from a side: word, pick, what is said, what is wanted, and the side behind it."""
        room, standing, wanting = side
        found = []
        for word, leads in self._style.let(room):
            due, behind = self._hearer.hear(wanting, word, 0)
            for pick in range(self._many):
                said, ahead = self._carrier.hear(standing, word, pick)
                found.append((word, pick, said, due, (leads, ahead, behind)))
        return found

    def end(self, side):
        """What is said and what is wanted at the end, None if the text cannot end there."""
        room, standing, wanting = side
        if not self._style.is_end(room):
            return None
        return self._carrier.finish(standing), self._hearer.finish(wanting)


def moves_of(follow, end):
    """The moves of a side: what is said, what is wanted, the number behind it, and the label, None at the end.

    Of moves that are alike but for the label one is enough.
    """
    moves = {}
    for word, pick, said, due, ahead in follow:
        moves.setdefault((said, due, ahead), (word, pick))
    if end is not None:
        moves.setdefault((*end, ENDED), None)
    return [(*move, label) for move, label in moves.items()]


class Sides:
    """The sides that can come, and their moves."""

    def __init__(self, road, want, style):
        walk = SideWalk(road, want, style)
        numbers, follows, _ = explored([(0, road.beginning, want.beginning)], walk.steps, MOST_SIDES, "standing")
        self._sides = list(numbers)
        self._moves = [moves_of(follow, walk.end(side)) for side, follow in zip(self._sides, follows)]

    def told(self, number):
        """The side with a number, the empty tuple if it has ended."""
        return () if number == ENDED else self._sides[number]

    def steps_from(self, row):
        """The steps from a row: which side moves, its label, what is wanted, and the row behind it."""
        left, right, owed = row
        steps = []
        for place in (0, 1):
            # Only the side that has said less moves: nothing is owed to it.
            if owed[place] != () or row[place] == ENDED:
                continue
            for said, due, ahead, label in self._moves[row[place]]:
                behind = moved(owed, place, said)
                if behind is not None:
                    sides = (ahead, right) if place == 0 else (left, ahead)
                    steps.append((place, label, due, (*sides, behind)))
        return steps


class PairSearch:
    """Goes along live rows with what is due, those to which the fewest words lead first.

    Two things that are due at one row, or wants that part, mean that one of them comes to the end unlike: so of no row
    more than two things are gone on with, those to which the fewest words lead.
    """

    def __init__(self, follows, live):
        self._follows = follows
        self._live = live
        self.dues = [[] for _ in follows]
        self._nodes = []

    def readings_to(self, end):
        """Two readings of which unlike things are wanted, with the fewest words in both, None if there are none."""
        level = [(0, NOTHING, None, None)]
        while len(level) > 0:
            further = []
            at = 0
            # Ends are no words: what they lead to comes at once.
            while at < len(level):
                number, due, _, _ = level[at]
                if len(self.dues[number]) < 2 and due not in self.dues[number]:
                    self.dues[number].append(due)
                    self._nodes.append(level[at])
                    if number == end and due != NOTHING:
                        return self._told()
                    for by_word, node in self._ahead(number, due):
                        if by_word:
                            further.append(node)
                        else:
                            level.append(node)
                at += 1
            level = further
        return None

    def _ahead(self, number, due):
        """What live rows come next, and whether by a word: the number, what is due, the node ahead, and the step."""
        found = []
        here = len(self._nodes) - 1
        for side, label, told, ahead in self._follows[number]:
            if self._live[ahead]:
                behind = None if due is None else moved(due, side, told)
                found.append((label is not None, (ahead, behind, here, (side, label))))
        return found

    def _told(self):
        """The left and the right reading that lead to the last node."""
        readings = ([], [])
        node = self._nodes[-1]
        while node[2] is not None:
            side, label = node[3]
            if label is not None:
                readings[side].append(label)
            node = self._nodes[node[2]]
        return tuple(readings[0][::-1]), tuple(readings[1][::-1])


class Known:
    """Whether a road knows a want: then the table of rows, otherwise two readings with the same page."""

    def __init__(self, road, want, style):
        check_want(want)
        meet(road.books[0].tongue, style)
        meet_want(want, style)
        sides = Sides(road, want, style)
        numbers, follows, _ = explored([(0, 0, NOTHING)], sides.steps_from, MOST_ROWS, "pair")
        end = numbers[(ENDED, ENDED, NOTHING)]
        search = PairSearch(follows, reaching(follows, [end]))
        self.pair = search.readings_to(end)
        self.table = None
        if self.pair is None:
            self.table = tuple([(sides.told(left), sides.told(right), owed, dues[0] if len(dues) > 0 else None)
                                for (left, right, owed), dues in zip(list(numbers), search.dues)])
        self._rows = () if self.table is None else self.table

    def __bool__(self):
        return self.pair is None

    def __len__(self):
        return len(self._rows)

    def __iter__(self):
        return iter(self._rows)
