"""A hand at once: it picks while the text is still being said."""

from keptacross.errors import BadSight, NoPlace
from keptacross.judging import is_last, is_road_standing, is_room_of, is_tuple_of, judged
from keptacross.keeping import last_behind
from keptacross.roads import Carrier
from keptacross.rows import is_below, is_plain, is_row, kept
from keptacross.search import explored
from keptacross.styles import meet
from keptacross.words import is_word

MOST_POSITIONS = 1000
END = ""
LAST_WINDOW = ("",)


def windows_behind(style, room, window):
    """The rooms and windows that the speaker can make by one more entry, in the order of the windows."""
    if window[-1:] == LAST_WINDOW:
        return [(room, window)]
    found = [(room, window + LAST_WINDOW)] if style.is_end(room) else []
    return found + [(leads, window + (word,)) for word, leads in style.let(room)]


def first_windows(style, sight):
    """The rooms and windows from which the speaker chooses at the beginning, in the order of the windows."""
    found = [(0, ())]
    for _ in range(sight + 1):
        found = [pair for room, window in found for pair in windows_behind(style, room, window)]
    rows = sorted([(len(window), window, room) for room, window in found if window != LAST_WINDOW])
    return [(room, window) for _, window, room in rows]


class Speech:
    """What can come of positions, for a road, rules, a style and a sight."""

    def __init__(self, road, rules, style, sight):
        if not is_below(sight, 3):
            raise BadSight(sight)
        meet(road.books[0].tongue, style)
        self.many = road.picks
        self._carrier = Carrier(road.books)
        self._rules = rules
        self._style = style
        self.firsts = tuple([(room, road.beginning, "", window) for room, window in first_windows(style, sight)])

    def outcomes(self, position, pick):
        """What the speaker can choose from behind a pick, None if what is said for the word breaks the rules.

        For each choice the window is told, and the position behind it; or, if it is the end alone, True or False:
        whether the rules are lost.
        """
        room, standing, last, window = position
        said, ahead = self._carrier.hear(standing, window[0], pick)
        if self._rules.breaks(last, said):
            return None
        last = last_behind(last, said)
        found = []
        for leads, entries in windows_behind(self._style, room, window[1:]):
            if entries == LAST_WINDOW:
                found.append((entries, self._rules.breaks(last, self._carrier.finish(ahead))))
            else:
                found.append((entries, (leads, ahead, last, entries)))
        return found

    def steps(self, position):
        """The steps from a position: the pick, the window, and the position that follows."""
        found = []
        for pick in range(self.many):
            outcomes = self.outcomes(position, pick)
            if outcomes is not None:
                found.extend([(pick, entries, behind) for entries, behind in outcomes if is_row(behind)])
        return found

    def is_kept(self, position, pick, good):
        """Whether the rules are not lost with a pick, and all positions that can follow are good."""
        outcomes = self.outcomes(position, pick)
        if outcomes is None:
            return False
        return all([behind in good if is_row(behind) else not behind for _, behind in outcomes])

    def loses(self, position, pick):
        """Whether the rules can be lost with this very pick."""
        outcomes = self.outcomes(position, pick)
        return outcomes is None or any([not is_row(behind) and behind for _, behind in outcomes])


def values_of(speech, positions, follows):
    """The values of all positions, None for the safe ones.

    Each pick of a position is lost when a position that can follow is; a position is when its last pick is.
    """
    many = speech.many
    behind = [[] for _ in follows]
    for number, follow in enumerate(follows):
        for pick, _, ahead in follow:
            behind[ahead].append((number, pick))
    fresh = [(number, pick) for number, position in enumerate(positions) for pick in range(many)
             if speech.loses(position, pick)]
    lost = {pair: True for pair in fresh}
    left = [many] * len(follows)
    values = [None] * len(follows)
    picks_away = 1
    while len(fresh) > 0:
        fallen = []
        for number, _ in fresh:
            left[number] -= 1
            if left[number] == 0:
                values[number] = picks_away
                fallen.append(number)
        # A dict leaves out what several positions lose, and keeps the order.
        fresh = list({pair: True for number in fallen for pair in behind[number] if pair not in lost})
        lost.update({pair: True for pair in fresh})
        picks_away += 1
    return values


class AtOnce:
    """Whether a hand at once keeps the rules with this sight: the positions, and their values."""

    def __init__(self, road, rules, style, *, sight=0):
        self._speech = Speech(road, rules, style, sight)
        numbers, follows, _ = explored(self._speech.firsts, self._speech.steps, MOST_POSITIONS, "position")
        positions = list(numbers)
        values = values_of(self._speech, positions, follows)
        self.firsts = self._speech.firsts
        self.table = tuple(list(zip(positions, values)))
        self._values = {position: value for position, value in self.table}
        self._safe = {position: True for position, value in self.table if value is None}
        self._keeps = all([position in self._safe for position in self.firsts])

    def __bool__(self):
        return bool(self._keeps)

    def _checked(self, position):
        """A position of the table, as tuples; NoPlace if it is none."""
        if not is_plain(position) or kept(position) not in self._values:
            raise NoPlace(position)
        return kept(position)

    def pick_for(self, position):
        """The least pick that keeps to safe positions, None if the position is not safe."""
        place = self._checked(position)
        for pick in range(self._speech.many):
            if self._speech.is_kept(place, pick, self._safe):
                return pick
        return None

    def _picks_away(self, behind):
        """How many picks behind this one the rules are surely lost, None if they need not be."""
        if is_row(behind):
            return self._values[behind]
        return 0 if behind else None

    def answer(self, position, pick):
        """The window with which the rules are lost soonest, None if no choice makes them surely lost."""
        place = self._checked(position)
        # A pick that the road does not have makes no other page than the one that is left of it.
        outcomes = self._speech.outcomes(place, int(pick) % self._speech.many)
        if outcomes is None:
            return None
        best = None
        for entries, behind in outcomes:
            away = self._picks_away(behind)
            if away is not None and (best is None or away < best[0]):
                best = (away, entries)
        return None if best is None else best[1]


def checked_window(thing, sight):
    """Whether the thing has the form of a window."""
    if not is_row(thing) or not 1 <= len(thing) <= sight + 1 or not is_word(thing[0]):
        return False
    if not all([is_word(entry) for entry in thing[:-1]]):
        return False
    is_end = isinstance(thing[-1], str) and thing[-1] == END
    return is_end or is_word(thing[-1]) and len(thing) == sight + 1


def checked_position(thing, road, style, sight):
    """A position, as tuples; None if the thing does not have the form of one."""
    if not is_tuple_of(thing, 4) or not is_room_of(thing[0], style) or not is_road_standing(thing[1], road):
        return None
    return kept(thing) if is_last(thing[2]) and checked_window(thing[3], sight) else None


def judge_at_once(road, rules, style, sight, positions):
    """None if a table of positions is a keeping table, otherwise the number of its first wrong row, or -1."""
    speech = Speech(road, rules, style, sight)
    if is_row(positions) and len(positions) == 0 and len(speech.firsts) == 0:
        return None

    def holds(position, there):
        return any([speech.is_kept(position, pick, there) for pick in range(road.picks)])

    return judged(positions, lambda thing: checked_position(thing, road, style, sight), speech.firsts, holds)


def least_sight(road, rules, style):
    """The least sight with which a hand at once keeps the rules, None if there is none."""
    for sight in range(3):
        if AtOnce(road, rules, style, sight=sight):
            return sight
    return None
