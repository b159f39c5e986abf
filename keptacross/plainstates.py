"""The states that can come with all picks 0, the pieces that are cut on the way, and marks on readings."""

from keptacross.carrying import BEGINNING, cut_pieces, name_of, text_of
from keptacross.search import explored, least_row
from keptacross.styles import meet

MOST_STATES = 300


def cuts_of(found):
    """Of pieces the name of the term, None for a kept word, and the names of all terms that held and fitted."""
    return tuple([(name_of(term), tuple([other.name for other in ready])) for ready, term, _, _ in found])


def cuts_behind(book, style, state):
    """The steps from a state with the pick 0: word, pick, the pieces that are cut, and the state behind it."""
    room, standing = state
    steps = []
    for word, leads in style.let(room):
        found, known, held = cut_pieces(book, standing[:5], standing[5] + ((word, 0),), ended=False)
        steps.append((word, 0, cuts_of(found), (leads, known + (held,))))
    return steps


def cuts_at_the_end(book, style, state):
    """The pieces that are cut at the end of the text in a state, none if its room is no end."""
    room, standing = state
    if not style.is_end(room):
        return ()
    return cuts_of(cut_pieces(book, standing[:5], standing[5], ended=True)[0])


def least_marked(style, rooms, follows, ends):
    """The least reading on which there is a mark, None if there is none.

    For each state are told its room, its steps (word, pick, whether there is a mark, and the number of the state
    behind it), and whether there is a mark at the end of a text that ends here.
    """
    def is_goal(node):
        marked, number = node
        return style.is_end(number) if marked else ends[number]

    def steps_of(node):
        marked, number = node
        # Behind a mark it only counts how the text can be ended.
        if marked:
            return [((word, 0), (True, room)) for word, room in style.let(number)]
        return [((word, pick), (mark, rooms[behind] if mark else behind))
                for word, pick, mark, behind in follows[number]]

    return least_row((False, 0), steps_of, is_goal)


class PlainStates:
    """All states of a book and a style that can come with all picks 0."""

    def __init__(self, book, style):
        meet(book.tongue, style)
        self._style = style
        numbers, self._follows, _ = explored(
            [(0, BEGINNING)], lambda state: cuts_behind(book, style, state), MOST_STATES, "standing")
        self.states = tuple(list(numbers))
        self._ends = [cuts_at_the_end(book, style, state) for state in self.states]

    def all_cuts(self):
        """The pieces that are cut by all steps, and at all ends."""
        return [cuts for follow in self._follows for _, _, cuts, _ in follow] + self._ends

    def least_text(self, is_met):
        """The least text some piece of which meets something, None if there is none."""
        follows = [[(word, pick, any([is_met(cut) for cut in cuts]), number) for word, pick, cuts, number in follow]
                   for follow in self._follows]
        ends = [any([is_met(cut) for cut in cuts]) for cuts in self._ends]
        reading = least_marked(self._style, [room for room, _ in self.states], follows, ends)
        return None if reading is None else text_of(reading)
