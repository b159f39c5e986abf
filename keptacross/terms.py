"""Terms: what a book renders, where, and by what."""

from keptacross.errors import BadTerm
from keptacross.rows import is_row, kept
from keptacross.words import GAP, is_token, is_word

WORK = ("work",)
LONE_SCOPES = ("work", "plain", "quoted")
WORD_SCOPES = ("in", "behind")


def is_item(thing):
    """Whether the thing can stand in a way."""
    return is_token(thing) or is_gap(thing)


def is_gap(thing):
    """Whether the thing is the gap."""
    return isinstance(thing, str) and thing == GAP


def is_pattern_item(thing):
    """Whether the thing can stand in a pattern."""
    return is_word(thing) or is_gap(thing)


def is_pattern(thing):
    """Whether the thing is a row of 1 to 3 items, of which only the middle one of three can be a gap."""
    if not is_row(thing) or not 1 <= len(thing) <= 3:
        return False
    if not all([is_pattern_item(item) for item in thing]):
        return False
    return not is_gap(thing[0]) and not is_gap(thing[-1])


def is_scope(thing):
    """Whether the thing has the form of a scope, with any words."""
    if not is_row(thing) or not 1 <= len(thing) <= 2:
        return False
    if len(thing) == 1:
        return thing[0] in LONE_SCOPES
    return thing[0] in WORD_SCOPES and is_word(thing[1])


def is_row_of_items(thing):
    """Whether the thing is a row of at most 6 items, however many of them are gaps."""
    return is_row(thing) and len(thing) <= 6 and all([is_item(item) for item in thing])


def is_way(thing, gap):
    """Whether the thing is a way for a pattern that has a gap (True) or none (False)."""
    return is_row_of_items(thing) and thing.count(GAP) == (1 if gap else 0)


def are_ways(thing, gap):
    """Whether the thing is what the ways of a term are."""
    return is_row(thing) and 1 <= len(thing) <= 3 and all([is_way(way, gap) for way in thing])


class Term:
    """A term has a name, a pattern, its ways, its scope, perhaps a first way and a turn."""

    def __init__(self, name, pattern, ways, *, scope=WORK, first=None, turn=None):
        if not is_word(name):
            raise BadTerm("name")
        if not is_pattern(pattern):
            raise BadTerm("pattern")
        if not are_ways(ways, GAP in pattern):
            raise BadTerm("ways")
        if not is_scope(scope):
            raise BadTerm("scope")
        if first is not None and not is_way(first, GAP in pattern):
            raise BadTerm("first")
        if turn is not None and not is_word(turn):
            raise BadTerm("turn")
        self.name = name
        self.pattern = kept(pattern)
        self.ways = kept(ways)
        self.scope = kept(scope)
        self.first = kept(first)
        self.turn = turn

    def __len__(self):
        return len(self.pattern)

    def __eq__(self, other):
        return (isinstance(other, Term) and self.name == other.name and self.pattern == other.pattern
                and self.ways == other.ways and self.scope == other.scope
                and self.first == other.first and self.turn == other.turn)

    @property
    def gap(self):
        """Whether its pattern has a gap."""
        return GAP in self.pattern
