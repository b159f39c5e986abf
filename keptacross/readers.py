"""Readers: chapters that are printed apart, and paths along them on which all that is needed has been given."""

from keptacross.carrying import BEGINNING, MOST_ITEMS, checked_reading, cut
from keptacross.errors import BadLinks, BadRow
from keptacross.judging import is_tuple_of, judged
from keptacross.rows import ascends, is_below, is_lot, is_number, is_row, kept
from keptacross.works import checked_work


def known_at_first(book, full):
    """What is known at the beginning of a chapter: in one that is not in full, all first ways have been said."""
    chapter, quoted, met, used, turn, _ = BEGINNING
    if not full:
        used = tuple(sorted([term.name for term in book.terms if term.first is not None]))
    return chapter, quoted, met, used, turn


def told_in(book, chapter, full):
    """The names of the terms that a chapter tells in full, and of those that it tells in short ahead of that."""
    known = known_at_first(book, full)
    whole = []
    short = []
    place = 0
    while place < len(chapter):
        used = known[3]
        (_, term, width, _), known = cut(book, known, chapter[place:place + MOST_ITEMS])
        place = place + width
        if term is not None and term.first is not None:
            if term.name not in used:
                whole.append(term.name)
            elif term.name not in whole:
                short.append(term.name)
    return tuple(sorted(set(whole))), tuple(sorted(set(short)))


def gives(book, chapter, full):
    """The names of the terms that a chapter tells in full, ascending."""
    return told_in(book, checked_reading(book.tongue, chapter), full)[0]


def needs(book, chapter, full):
    """The names of the terms that a chapter tells in short while it has not told them in full, ascending."""
    return told_in(book, checked_reading(book.tongue, chapter), full)[1]


def are_links(thing, many):
    """Whether the thing is an ascending row of pairs of numbers of so many chapters."""
    if not is_row(thing) or not all([is_tuple_of(pair, 2) for pair in thing]):
        return False
    return all([is_below(number, many) for pair in thing for number in pair]) and ascends(kept(thing))


def is_chapter_lot(thing, many):
    """Whether the thing is an ascending row of numbers of so many chapters."""
    return is_lot(thing, lambda number: is_below(number, many))


class Paths:
    """The paths along the chapters of a work by some links, some of the chapters in full."""

    def __init__(self, book, chapters, links, starts, full):
        told = [told_in(book, chapter, number in full) for number, chapter in enumerate(chapters)]
        self._gives = [pair[0] for pair in told]
        self._needs = [pair[1] for pair in told]
        self._links = [[end for start, end in links if start == number] for number in range(len(chapters))]
        self.firsts = [(start, ()) for start in starts]

    def is_ready(self, node):
        """Whether a chapter that is read next needs only terms that are met."""
        chapter, met = node
        return all([name in met for name in self._needs[chapter]])

    def met_behind(self, node):
        """What is met when a chapter has been read."""
        chapter, met = node
        return tuple(sorted(set([*met, *self._gives[chapter]])))

    def chapters_behind(self, chapter):
        """The numbers of the chapters that can be read behind one, ascending."""
        return self._links[chapter]

    def behind(self, node):
        """What can be read behind a chapter, each with what is met then."""
        met = self.met_behind(node)
        return [(number, met) for number in self._links[node[0]]]

    def gone_through(self):
        """All that can be read next, in order, and None; or None, and the least path that is not kept."""
        nodes = list(self.firsts)
        paths = {node: (node[0],) for node in nodes}
        at = 0
        while at < len(nodes):
            here = nodes[at]
            if not self.is_ready(here):
                return None, paths[here]
            for node in self.behind(here):
                if node not in paths:
                    paths[node] = (*paths[here], node[0])
                    nodes.append(node)
            at += 1
        return tuple(nodes), None


def check_links(chapters, links, starts):
    """BadLinks, unless these are links and starts for some chapters."""
    if not are_links(links, len(chapters)):
        raise BadLinks("links")
    if not is_chapter_lot(starts, len(chapters)):
        raise BadLinks("starts")


def checked_paths(book, chapters, links, starts, full):
    """The paths along the chapters of a work; BadWork or BadLinks if there are none."""
    work = checked_work(book.tongue, chapters)
    check_links(work, links, starts)
    if not is_chapter_lot(full, len(work)):
        raise BadLinks("full")
    return Paths(book, work, kept(links), kept(starts), kept(full))


class Readers:
    """Whether all paths are kept: then the table of what is read next, otherwise the least path that is not."""

    def __init__(self, book, chapters, links, starts, full):
        self._paths = checked_paths(book, chapters, links, starts, full)
        self.table, self.path = self._paths.gone_through()

    def __bool__(self):
        return self.path is None

    def keeps(self, path):
        """Whether a path is kept."""
        if not is_row(path):
            raise BadRow(-1)
        ahead = [start for start, _ in self._paths.firsts]
        for place, chapter in enumerate(path):
            if not is_number(chapter) or chapter not in ahead:
                raise BadRow(place)
            ahead = self._paths.chapters_behind(chapter)
        ready = True
        met = ()
        for chapter in path:
            ready = ready and self._paths.is_ready((chapter, met))
            met = self._paths.met_behind((chapter, met))
        return ready


def checked_pair(thing, names, many):
    """A row of a table, as tuples; None if the thing does not have the form of one."""
    if not is_tuple_of(thing, 2) or not is_below(thing[0], many):
        return None
    return kept(thing) if is_lot(thing[1], lambda name: name in names) else None


def judge_readers(book, chapters, links, starts, full, table):
    """None if a table of what is read next is closed, otherwise the number of its first wrong row, or -1."""
    paths = checked_paths(book, chapters, links, starts, full)
    if len(paths.firsts) == 0 and is_row(table) and len(table) == 0:
        return None

    def holds(node, there):
        return paths.is_ready(node) and all([behind in there for behind in paths.behind(node)])

    return judged(table, lambda thing: checked_pair(thing, book.names, len(chapters)), paths.firsts, holds)
