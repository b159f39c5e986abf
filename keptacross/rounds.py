"""Rounds, done again and again; journeys that keep a house; and word books that are spare."""

from keptacross.errors import NoWord, Unlike
from keptacross.journeys import Journeys


class Round:
    """A journey that ends where it began: from which number of rounds on, and how often, its images come again."""

    def __init__(self, web, house, journey):
        ends, images = web.after(house, journey)
        if ends != house:
            raise Unlike("houses")
        self._words = web.words_of(house)
        behind = dict(zip(self._words, images))
        times = {}
        rows = self._words
        while rows not in times:
            times[rows] = len(times)
            rows = tuple([behind[word] for word in rows])
        self.lead = times[rows]
        self.period = len(times) - self.lead
        self._images = list(times)

    def fate(self, word):
        """What a word is after 0, 1 and so on rounds, until images come again."""
        if word not in self._words:
            raise NoWord(word)
        place = self._words.index(word)
        return tuple([images[place] for images in self._images])


def keepers(web, house):
    """The pairs of a house and the least journey that leads there and keeps the house where it began."""
    found = {}
    for ends, images, journey, _ in Journeys(web, house):
        if len(set(images)) == len(images):
            found.setdefault(ends, journey)
    return tuple([(name, found[name]) for name in sorted(found)])


def come_to(table, book):
    """How many rows of a table of journeys are come to without a word book."""
    there = {0: True}
    waiting = [0]
    while len(waiting) > 0:
        here = waiting.pop()
        for number, behind in table[here][3]:
            if number != book and behind not in there:
                there[behind] = True
                waiting.append(behind)
    return len(there)


def spare_books(web):
    """The numbers of the word books without which, each by itself, journeys come to the same houses and images."""
    tables = [Journeys(web, name).table for name, _ in web]
    return tuple([book for book in range(len(web.books))
                  if all([come_to(table, book) == len(table) for table in tables])])
