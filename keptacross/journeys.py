"""What journeys of any length make of the words of a house."""

from keptacross.errors import BadJourney
from keptacross.judging import is_tuple_of
from keptacross.rows import is_below, is_number, is_plain, is_row, kept
from keptacross.search import arrived, explored
from keptacross.words import is_word

MOST_ROWS = 400


def steps_in(web, node):
    """The steps from a pair of a house and some of its words: a word book, and the pair behind it."""
    house, words = node
    return [(number, web.behind(number, words)) for number in web.leaving(house)]


class Journeys:
    """The table of the houses to which journeys from a house lead, and of their images."""

    def __init__(self, web, house):
        self._numbers, follows, arrivals = explored(
            [(house, web.words_of(house))], lambda node: steps_in(web, node), MOST_ROWS, "row")
        self.table = tuple([(*node, tuple([step[0] for step in arrived(follows, arrivals, number)]), follows[number])
                            for node, number in self._numbers.items()])

    def __len__(self):
        return len(self.table)

    def __iter__(self):
        return iter(self.table)

    def along(self, journey):
        """The number of the row to which a journey leads."""
        if not is_row(journey):
            raise BadJourney(-1)
        row = 0
        for place, number in enumerate(journey):
            ahead = dict(self.table[row][3])
            if not is_number(number) or number not in ahead:
                raise BadJourney(place)
            row = ahead[number]
        return row

    def place_of(self, house, images):
        """The number of the row with this house and these images, None if there is none."""
        node = (house, images)
        return self._numbers.get(kept(node)) if is_plain(node) else None


def is_first(thing, web, house):
    """Whether the thing can stand first in a table: the house with its own words and the empty journey."""
    if not is_tuple_of(thing, 4) or not is_row(thing[1]) or not is_tuple_of(thing[2], 0):
        return False
    return (thing[0], tuple(thing[1])) == (house, web.words_of(house))


def checked_row(thing, web, many):
    """A row of a table with so many words, as tuples; None if it does not have the form of one.

    What stands in the two tuples is looked at when the row is judged: it can be anything.
    """
    if not is_tuple_of(thing, 4) or thing[0] not in web or not is_tuple_of(thing[1], many):
        return None
    if not all([is_word(word) for word in thing[1]]) or not is_row(thing[2]) or not is_row(thing[3]):
        return None
    return thing[0], tuple(thing[1]), tuple(thing[2]), tuple(thing[3])


def node_after(web, house, journey):
    """Where a journey leads, and its images; None if it is no journey from the house."""
    try:
        return web.after(house, journey)
    except BadJourney:
        return None


def leads(rows, pair, number, node):
    """Whether a pair has this word book, and the number of a row with this house and these images."""
    if not is_tuple_of(pair, 2) or not is_number(pair[0]) or pair[0] != number:
        return False
    return is_below(pair[1], len(rows)) and rows[pair[1]] is not None and rows[pair[1]][:2] == node


def judge_journeys(web, house, table):
    """None if a table of journeys is right, otherwise the number of its first wrong row, or -1."""
    many = len(web.words_of(house))
    if not is_row(table) or len(table) == 0 or not is_first(table[0], web, house):
        return -1
    rows = [checked_row(thing, web, many) for thing in table]
    for place, row in enumerate(rows):
        if row is None or node_after(web, house, row[2]) != row[:2]:
            return place
        steps = steps_in(web, row[:2])
        if len(row[3]) != len(steps):
            return place
        if not all([leads(rows, pair, number, node) for pair, (number, node) in zip(row[3], steps)]):
            return place
    return None
