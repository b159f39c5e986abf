"""Whether a term is ever used in a style."""

from keptacross.carrying import BEGINNING
from keptacross.judging import is_room_of, is_standing, is_tuple_of, judged
from keptacross.plainstates import PlainStates, cuts_at_the_end, cuts_behind
from keptacross.errors import NoTerm
from keptacross.rows import kept
from keptacross.styles import meet


def check_name(book, name):
    """NoTerm if the name is that of no term of the book."""
    if name not in book:
        raise NoTerm(name)


class Use:
    """Whether a term is ever used: then the least text that uses it, otherwise the table of all states."""

    def __init__(self, book, style, name):
        check_name(book, name)
        plain_states = PlainStates(book, style)
        self.text = plain_states.least_text(lambda cut: cut[0] == name)
        self.table = plain_states.states if self.text is None else None

    def __bool__(self):
        return self.text is not None


def checked_state(thing, style):
    """A state of a book, as tuples; None if the thing does not have the form of one."""
    if is_tuple_of(thing, 2) and is_room_of(thing[0], style) and is_standing(thing[1]):
        return kept(thing)
    return None


def is_cut_by(cuts, name):
    """Whether one of these pieces is cut by the term with this name."""
    return any([used == name for used, _ in cuts])


def judge_use(book, style, name, table):
    """None if a table of states is closed for a term, otherwise the number of its first wrong row, or -1."""
    check_name(book, name)
    meet(book.tongue, style)

    def holds(state, there):
        if is_cut_by(cuts_at_the_end(book, style, state), name):
            return False
        return all([behind in there and not is_cut_by(cuts, name)
                    for _, _, cuts, behind in cuts_behind(book, style, state)])

    return judged(table, lambda thing: checked_state(thing, style), [(0, BEGINNING)], holds)
