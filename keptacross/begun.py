"""States of an outlook from which the same is said, whatever comes."""

from keptacross.alike import pairs_compared
from keptacross.errors import TooMany, Unlike
from keptacross.owing import MOST_PAIRS
from keptacross.residues import parts_of


class Begun:
    """Whether two states are begun alike: then the table of what is owed, otherwise the least reading that shows it."""

    def __init__(self, outlook, first, second):
        one = outlook[first]
        other = outlook[second]
        if one[0] != other[0]:
            raise Unlike("rooms")
        pairs, owed, self.reading = pairs_compared(outlook, outlook, (first, second))
        self.table = None
        if self.reading is None:
            self.table = tuple([(*outlook[left], outlook[right][1], owing)
                                for (left, right), owing in zip(pairs, owed)])

    def __bool__(self):
        return self.reading is None


def pairs_behind(outlook, pair):
    """The different pairs of states to which a pair leads."""
    return sorted(set([(one[3], other[3]) for one, other in zip(outlook.follow(pair[0]), outlook.follow(pair[1]))]))


def check_pairs_from(outlook, start, seen):
    """Finds all pairs that can come from a pair; TooMany if there are too many. They are kept in what is seen."""
    there = {start: True}
    waiting = [start]
    while len(waiting) > 0:
        pair = waiting.pop()
        if pair not in seen:
            seen[pair] = pairs_behind(outlook, pair)
        for behind in seen[pair]:
            if behind not in there:
                if len(there) == MOST_PAIRS:
                    raise TooMany("pair")
                there[behind] = True
                waiting.append(behind)


def check_pairs(outlook):
    """TooMany if too many pairs can come from some two states with the same room."""
    rooms = [state[0] for state in outlook]
    if sum([rooms.count(room) for room in rooms]) <= MOST_PAIRS:
        return
    seen = {}
    for one in range(len(rooms)):
        for other in range(one + 1, len(rooms)):
            # From pairs that have come from others no more can come than from these; nor from a pair turned round.
            if rooms[one] == rooms[other] and (one, other) not in seen and (other, one) not in seen:
                check_pairs_from(outlook, (one, other), seen)


def classes(outlook):
    """The number of the class of each state: in one class are those with one room that are begun alike."""
    check_pairs(outlook)
    return tuple(parts_of(outlook))
