"""Words of a house that fall together on journeys, and those that never do."""

from keptacross.errors import NoWord
from keptacross.journeys import steps_in
from keptacross.judging import is_tuple_of, judged
from keptacross.notes import least_of, lots_of
from keptacross.rows import kept
from keptacross.search import explored, least_row

# Six houses have fewer triples: so there are never too many.
MOST_TRIPLES = 1000


def check_words(web, house, words):
    """NoHouse, or NoWord with the first of the words that is none of the house."""
    there = web.words_of(house)
    for word in words:
        if word not in there:
            raise NoWord(word)


def are_one(node):
    """Whether both words of a pair of a house and two words are the same."""
    return node[1][0] == node[1][1]


class Together:
    """Whether two words of a house fall together: then the least journey, otherwise the table of triples."""

    def __init__(self, web, house, one, other):
        check_words(web, house, (one, other))
        start = (house, (one, other))
        self.journey = least_row(start, lambda node: steps_in(web, node), are_one)
        self.table = None
        if self.journey is None:
            nodes, _, _ = explored([start], lambda node: steps_in(web, node), MOST_TRIPLES, "triple")
            self.table = tuple([(here, *words) for here, words in nodes])

    def __bool__(self):
        return self.journey is not None


def checked_triple(thing, web):
    """A triple of a house and two of its words, as a tuple; None if it does not have this form."""
    if not is_tuple_of(thing, 3) or thing[0] not in web:
        return None
    there = web.words_of(thing[0])
    return kept(thing) if thing[1] in there and thing[2] in there else None


def judge_apart(web, house, one, other, table):
    """None if a table of triples is closed, otherwise the number of its first wrong row, or -1."""
    check_words(web, house, (one, other))

    def holds(triple, there):
        node = (triple[0], triple[1:])
        return not are_one(node) and all([(ends, *words) in there for _, (ends, words) in steps_in(web, node)])

    return judged(table, lambda thing: checked_triple(thing, web), [(house, one, other)], holds)


def left_out(web, house):
    """The least lots of words of a house that must be left out, so that no two of the others fall together."""
    words = web.words_of(house)
    pairs = [(one, other) for one in words for other in words if one < other and Together(web, house, one, other)]
    return least_of([lot for lot in lots_of(words)
                     if all([one in lot or other in lot for one, other in pairs])])
