"""Whether each hand keeps the rules."""

from keptacross.judging import is_last, is_road_standing, is_room_of, is_tuple_of, judged
from keptacross.outlooks import Walk
from keptacross.plainstates import MOST_STATES, least_marked
from keptacross.rows import kept
from keptacross.search import explored
from keptacross.styles import meet


def last_behind(last, said):
    """The last token that has been said when something more is said."""
    return said[-1] if len(said) > 0 else last


def steps_of_triple(walk, rules, triple):
    """The steps from a triple: word, pick, whether the rules are broken, and the triple behind it."""
    room, standing, last = triple
    return [(word, pick, rules.breaks(last, said), (*state, last_behind(last, said)))
            for word, pick, said, state in walk.steps((room, standing))]


def breaks_at_the_end(walk, rules, triple):
    """Whether a text can end with a triple, and what is said then breaks the rules."""
    said = walk.end(triple[:2])
    return said is not None and rules.breaks(triple[2], said)


class Keeping:
    """Whether each hand keeps the rules: then the table of all triples, otherwise the least reading that breaks."""

    def __init__(self, road, rules, style):
        meet(road.books[0].tongue, style)
        walk = Walk(road, style, road.picks)
        numbers, follows, _ = explored(
            [(0, road.beginning, "")], lambda triple: steps_of_triple(walk, rules, triple), MOST_STATES, "standing")
        triples = tuple(list(numbers))
        ends = [breaks_at_the_end(walk, rules, triple) for triple in triples]
        self.reading = least_marked(style, [triple[0] for triple in triples], follows, ends)
        self.table = triples if self.reading is None else None

    def __bool__(self):
        return self.reading is None


def checked_triple(thing, road, style):
    """A triple of a room, a standing and a last token, as tuples; None if the thing does not have the form of one."""
    if not is_tuple_of(thing, 3) or not is_room_of(thing[0], style):
        return None
    return kept(thing) if is_road_standing(thing[1], road) and is_last(thing[2]) else None


def judge_keeping(road, rules, style, table):
    """None if a table of triples is closed, otherwise the number of its first wrong row, or -1."""
    meet(road.books[0].tongue, style)
    walk = Walk(road, style, road.picks)

    def holds(triple, there):
        if breaks_at_the_end(walk, rules, triple):
            return False
        return all([behind in there and not broken
                    for _, _, broken, behind in steps_of_triple(walk, rules, triple)])

    return judged(table, lambda thing: checked_triple(thing, road, style), [(0, road.beginning, "")], holds)
