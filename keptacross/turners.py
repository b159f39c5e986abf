"""Turners: word maps with names, and the finitely many maps that rows of them do."""

from keptacross.books import is_turner
from keptacross.errors import BadRow, BadTurners, TooMany
from keptacross.rows import is_below, is_row, kept
from keptacross.wordmaps import WordMap, are_pairs, pairs_of

MOST_MAPS = 300


def checked_turns(turns):
    """Turners, as tuples; BadTurners if they are none."""
    if not is_row(turns) or not 1 <= len(turns) <= 4:
        raise BadTurners(-1)
    for number, pair in enumerate(turns):
        if not is_turner(pair) or (number > 0 and pair[0] <= turns[number - 1][0]):
            raise BadTurners(number)
    return kept(turns)


def checked_row(names, row):
    """A row of these names, as a tuple; BadRow if it is none."""
    if not is_row(row):
        raise BadRow(-1)
    for number, name in enumerate(row):
        if name not in names:
            raise BadRow(number)
    return kept(row)


def domain_of(turns):
    """The words that some turner changes: each row maps all others to themselves."""
    return sorted(set([word for _, word_map in turns for word, _ in word_map.pairs]))


def mapped(images, changes):
    """The images of the domain behind one map more, which is given as a dict."""
    return tuple([changes.get(word, word) for word in images])


def dicts_of(turns):
    """The maps of the turners as dicts, in their order."""
    return [dict(word_map.pairs) for _, word_map in turns]


def triples_of(domain, found):
    """The table, from what is found: for each row of images, a row of names and what follows."""
    return tuple([(pairs_of(dict(zip(domain, images))), row, follows) for images, row, follows in found])


def gone_through(turns, domain):
    """The images of the domain, the least row, and the numbers that follow, of each map of any row."""
    maps = list(zip([pair[0] for pair in turns], dicts_of(turns)))
    reached = [(tuple(domain), ())]
    numbers = {tuple(domain): 0}
    found = []
    while len(found) < len(reached):
        images, row = reached[len(found)]
        follows = []
        for name, changes in maps:
            behind = mapped(images, changes)
            if behind not in numbers:
                if len(reached) == MOST_MAPS:
                    raise TooMany("map")
                numbers[behind] = len(reached)
                reached.append((behind, row + (name,)))
            follows.append(numbers[behind])
        found.append((images, row, tuple(follows)))
    return found


class Turners:
    """Some turners, and the table of all maps that rows of them do."""

    def __init__(self, turns):
        self.turns = checked_turns(turns)
        domain = domain_of(self.turns)
        self.table = triples_of(domain, gone_through(self.turns, domain))
        self._numbers = {triple[0]: number for number, triple in enumerate(self.table)}

    def __len__(self):
        return len(self.table)

    def __iter__(self):
        return iter(self.table)

    def __call__(self, row):
        """The word map that a row of names does."""
        return WordMap(self.table[self.along(row)][0])

    @property
    def names(self):
        """The names of the turners, ascending."""
        return tuple([pair[0] for pair in self.turns])

    def along(self, row):
        """The number of the triple to which a row of names leads."""
        names = self.names
        number = 0
        for name in checked_row(names, row):
            number = self.table[number][2][names.index(name)]
        return number

    def place_of(self, word_map):
        """The number of the triple with this map, None if there is none."""
        return self._numbers.get(word_map.pairs)


def is_first(thing):
    """Whether the thing can stand first in a table: a triple with no pairs and the empty row."""
    if not is_row(thing) or len(thing) != 3:
        return False
    return all([is_row(part) and len(part) == 0 for part in thing[:2]])


def checked_triple(thing):
    """A triple of a table, as tuples; None if it does not have the form of one."""
    if not is_row(thing) or len(thing) != 3:
        return None
    pairs, row, follows = thing
    if not are_pairs(pairs) or not is_row(row) or not is_row(follows):
        return None
    return kept(pairs), tuple(row), tuple(follows)


class TableJudge:
    """Judges the triples of a table, whoever wrote it, and however long it is."""

    def __init__(self, turns, table):
        self.triples = [checked_triple(thing) for thing in table]
        self.called = [pair[0] for pair in turns]
        self.maps = dicts_of(turns)
        self.domain = domain_of(turns)
        self.done = {(): tuple(self.domain)}

    def images_behind(self, row):
        """The images of the domain behind a row of names. Those behind a row that was judged are at hand."""
        if row in self.done:
            return self.done[row]
        ahead = row[:-1]
        images = self.done.get(ahead, None)
        if images is None:
            images = self.done[()]
            for name in ahead:
                images = mapped(images, self.maps[self.called.index(name)])
        images = mapped(images, self.maps[self.called.index(row[-1])])
        self.done[row] = images
        return images

    def does(self, triple, images):
        """Whether a triple tells the map that has these images."""
        return triple is not None and triple[0] == pairs_of(dict(zip(self.domain, images)))

    def leads(self, number, images):
        """Whether a number is that of a triple with the map that has these images."""
        return is_below(number, len(self.triples)) and self.does(self.triples[number], images)

    def is_right(self, triple):
        """Whether a triple has the form told, and tells what its row does and leads to."""
        if triple is None:
            return False
        _, row, follows = triple
        if not all([name in self.called for name in row]) or len(follows) != len(self.maps):
            return False
        images = self.images_behind(row)
        if not self.does(triple, images):
            return False
        return all([self.leads(number, mapped(images, changes)) for number, changes in zip(follows, self.maps)])


def judge_turners(turns, table):
    """None if a table of turners is right, otherwise the number of its first wrong triple, or -1."""
    checked = checked_turns(turns)
    if not is_row(table) or len(table) == 0 or not is_first(table[0]):
        return -1
    judge = TableJudge(checked, table)
    for number, triple in enumerate(list(judge.triples)):
        if not judge.is_right(triple):
            return number
    return None
