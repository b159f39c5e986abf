"""Webs: houses of words, and word books that lead from one house to a house."""

from keptacross.errors import BadJourney, BadWeb, NoHouse
from keptacross.rows import ascends, is_below, is_lot, is_row, kept
from keptacross.words import is_word

MOST_HOUSES = 6
MOST_WORDS = 6
MOST_BOOKS = 12


def is_house(thing):
    """Whether the thing is a pair of a word and a lot of words."""
    if not is_row(thing) or len(thing) != 2 or not is_word(thing[0]):
        return False
    return is_lot(thing[1], is_word) and 1 <= len(thing[1]) <= MOST_WORDS


def are_houses(thing):
    """Whether the thing is what the houses of a web are."""
    if not is_row(thing) or not 1 <= len(thing) <= MOST_HOUSES or not all([is_house(house) for house in thing]):
        return False
    return ascends([house[0] for house in thing])


def carries(pairs, words, others):
    """Whether pairs carry each of these words, in their order, to one of the others."""
    if not is_row(pairs) or not all([is_row(pair) and len(pair) == 2 for pair in pairs]):
        return False
    return [pair[0] for pair in pairs] == list(words) and all([pair[1] in others for pair in pairs])


def is_word_book(thing, houses):
    """Whether the thing is a word book between these houses, which are told by a dict."""
    if not is_row(thing) or len(thing) != 3:
        return False
    start, end, pairs = thing
    if not isinstance(start, str) or not isinstance(end, str) or start not in houses or end not in houses:
        return False
    return carries(pairs, houses[start], houses[end])


class Web:
    """A web has 1 to 6 houses, and at most 12 word books, which are numbered."""

    def __init__(self, houses, books=()):
        if not are_houses(houses):
            raise BadWeb("houses")
        self.houses = kept(houses)
        self._words = dict(self.houses)
        if not is_row(books) or len(books) > MOST_BOOKS or not all([is_word_book(one, self._words) for one in books]):
            raise BadWeb("books")
        self.books = kept(books)
        self._maps = [dict(pairs) for _, _, pairs in self.books]

    def __len__(self):
        return len(self.houses)

    def __iter__(self):
        return iter(self.houses)

    def __contains__(self, name):
        return isinstance(name, str) and name in self._words

    def __eq__(self, other):
        return isinstance(other, Web) and self.houses == other.houses and self.books == other.books

    def words_of(self, house):
        """The words of a house."""
        if house not in self:
            raise NoHouse(house)
        return self._words[house]

    def leaving(self, house):
        """The numbers of the word books that begin in a house, ascending."""
        if house not in self:
            raise NoHouse(house)
        return tuple([number for number, book in enumerate(self.books) if book[0] == house])

    def behind(self, number, words):
        """The house to which a word book leads, and what some words of its first house become."""
        images = self._maps[number]
        return self.books[number][1], tuple([images[word] for word in words])

    def after(self, house, journey):
        """The house where a journey from a house ends, and its images."""
        images = self.words_of(house)
        if not is_row(journey):
            raise BadJourney(-1)
        for place, number in enumerate(journey):
            if not is_below(number, len(self.books)) or self.books[number][0] != house:
                raise BadJourney(place)
            house, images = self.behind(number, images)
        return house, images
