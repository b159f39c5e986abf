"""Whether some hand keeps the rules on each text."""

from keptacross.judging import is_last, is_road_standing, is_room_of, is_tuple_of, judged
from keptacross.keeping import last_behind
from keptacross.roads import Carrier
from keptacross.rows import is_row, kept
from keptacross.search import arrived, explored
from keptacross.styles import meet

MOST_LOTS = 300


class Tips:
    """The tips of a road, as they are found; each leads to others without breaking the rules."""

    def __init__(self, road, rules):
        self._carrier = Carrier(road.books)
        self._many = road.picks
        self._rules = rules
        self._numbers = {}
        self._tips = []
        self._behind = {}
        self._ends = {}

    def number_of(self, tip):
        """The number of a tip, a new one if it was not there."""
        if tip not in self._numbers:
            self._numbers[tip] = len(self._tips)
            self._tips.append(tip)
        return self._numbers[tip]

    def behind(self, number, word):
        """The numbers of the tips to which a tip leads with a word and some pick."""
        if (number, word) not in self._behind:
            standing, last = self._tips[number]
            found = []
            for pick in range(self._many):
                said, ahead = self._carrier.hear(standing, word, pick)
                if not self._rules.breaks(last, said):
                    found.append(self.number_of((ahead, last_behind(last, said))))
            self._behind[(number, word)] = sorted(set(found))
        return self._behind[(number, word)]

    def lot_behind(self, lot, word):
        """The numbers of the tips to which some tip of a lot leads with a word and some pick, ascending."""
        return tuple(sorted(set([ahead for number in lot for ahead in self.behind(number, word)])))

    def can_end(self, number):
        """Whether the text can end with a tip without breaking the rules."""
        if number not in self._ends:
            standing, last = self._tips[number]
            self._ends[number] = not self._rules.breaks(last, self._carrier.finish(standing))
        return self._ends[number]

    def told(self, lot):
        """The ascending tuple of the tips with these numbers."""
        return tuple(sorted([self._tips[number] for number in lot]))


class Able:
    """Whether some hand keeps the rules on each text: then the table of lots, otherwise the least text without one."""

    def __init__(self, road, rules, style):
        meet(road.books[0].tongue, style)
        tips = Tips(road, rules)
        numbers, follows, arrivals = explored(
            [(0, (tips.number_of((road.beginning, "")),))],
            lambda pair: [(word, (leads, tips.lot_behind(pair[1], word))) for word, leads in style.let(pair[0])],
            MOST_LOTS, "lot")
        self.text = None
        for number, (room, lot) in enumerate(list(numbers)):
            if style.is_end(room) and not any([tips.can_end(tip) for tip in lot]):
                self.text = tuple([step[0] for step in arrived(follows, arrivals, number)])
                break
        self.table = tuple([(room, tips.told(lot)) for room, lot in numbers]) if self.text is None else None

    def __bool__(self):
        return self.text is None


def is_tip(thing, road):
    """Whether the thing has the form of a tip."""
    return is_tuple_of(thing, 2) and is_road_standing(thing[0], road) and is_last(thing[1])


def checked_pair(thing, road, style):
    """A pair of a room and tips, as tuples; None if the thing does not have the form of one."""
    if not is_tuple_of(thing, 2) or not is_room_of(thing[0], style) or not is_row(thing[1]):
        return None
    return kept(thing) if all([is_tip(part, road) for part in thing[1]]) else None


def judge_able(road, rules, style, table):
    """None if a table of lots is closed, otherwise the number of its first wrong row, or -1."""
    meet(road.books[0].tongue, style)
    tips = Tips(road, rules)

    def holds(pair, there):
        room, told = pair
        lot = [tips.number_of(tip) for tip in told]
        if len(lot) == 0 or style.is_end(room) and not any([tips.can_end(number) for number in lot]):
            return False
        return all([(leads, tips.told(tips.lot_behind(lot, word))) in there for word, leads in style.let(room)])

    return judged(table, lambda thing: checked_pair(thing, road, style), [(0, ((road.beginning, ""),))], holds)
