"""What a page tells by itself of its source."""

from keptacross.errors import NoSource, Unsettled
from keptacross.pagewalk import PageWalk, checked_page
from keptacross.styles import meet
from keptacross.wants import check_want, meet_want


class Rows:
    """Rows of tokens by numbers, the same one for equal rows: so long ones are not written again with each word."""

    def __init__(self):
        self._longer = {}
        # For each row the number of the one that is a token shorter, and this token; the empty one comes first.
        self._ends = [None]

    def behind(self, number, tokens):
        """The number of the row with some tokens more."""
        for token in tokens:
            key = (number, token)
            if key not in self._longer:
                self._longer[key] = len(self._ends)
                self._ends.append(key)
            number = self._longer[key]
        return number

    def told(self, number):
        """The row with a number."""
        tokens = []
        while self._ends[number] is not None:
            number, token = self._ends[number]
            tokens.append(token)
        return tuple(tokens[::-1])


class Wanted:
    """What has been wanted behind the readings that lead to each live node, as they come to it first.

    arrivals tells by which step each node is first come to, as search tells arrivals. clash is the first step that
    comes to a node with another thing (as the number of the node ahead, and its place there), None if there is none.
    """

    def __init__(self, walk, want):
        self._walk = walk
        self._want = want
        self._rows = Rows()
        self._found = [None] * len(walk.nodes)
        self._found[0] = 0
        self.arrivals = [None] * len(walk.nodes)
        self.clash = None
        # Live nodes are numbered as they are found: so what is wanted so far is known when a node's turn comes.
        for number, follow in enumerate(list(walk.follows)):
            if self.clash is None:
                self._go_on(number, follow)

    def _go_on(self, number, follow):
        """Takes the steps from a node, up to the first one that clashes."""
        rows = {}
        for place, (_, _, due, behind) in enumerate(list(follow)):
            # The same is wanted of a word with all picks.
            if due not in rows:
                rows[due] = self._rows.behind(self._found[number], due)
            row = rows[due]
            if self._found[behind] is None:
                self._found[behind] = row
                self.arrivals[behind] = (number, place)
            elif self._found[behind] != row and self.clash is None:
                self.clash = (number, place)

    def at_ends(self):
        """The pairs of a node that can end, and a number for what is wanted of the sources that lead there."""
        return [(number, self._rows.behind(self._found[number], self._want.finish(node[3])))
                for number, node in enumerate(list(self._walk.nodes)) if self._walk.ends[number]]

    def told(self, row):
        """What is wanted, by its number."""
        return self._rows.told(row)


def wanted_of_all(walk, want):
    """What is wanted of all sources of a page that has some, None if it is not the same."""
    wants = Wanted(walk, want)
    if wants.clash is not None:
        return None
    rows = [row for _, row in wants.at_ends()]
    return wants.told(rows[0]) if all([row == rows[0] for row in rows]) else None


def told_by(road, page, want, style):
    """What is wanted of all readings of the style that have this page."""
    tokens = checked_page(page)
    check_want(want)
    meet(road.books[0].tongue, style)
    meet_want(want, style)
    walk = PageWalk(road, tokens, want, style)
    if len(walk.nodes) == 0:
        raise NoSource(page)
    row = wanted_of_all(walk, want)
    if row is None:
        raise Unsettled(page)
    return row
