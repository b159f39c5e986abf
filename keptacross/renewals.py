"""Renewals: which changes of a shelf are sure, and pages that are renewed change by change."""

from keptacross.errors import BadRow
from keptacross.known import Known
from keptacross.pagewalk import checked_page
from keptacross.roads import Road
from keptacross.rows import is_below, kept
from keptacross.styles import meet
from keptacross.telling import told_by


def pairs_of_books(shelf, style):
    """For each book and each other book to which a change leads from it, two readings if its pages do not tell."""
    roads = [Road(book) for book in shelf]
    pairs = {}
    for number, road in enumerate(roads):
        for behind, _ in list(shelf.follow(number)):
            if behind != number and (number, behind) not in pairs:
                pairs[number, behind] = Known(road, roads[behind], style).pair
    return pairs


class Renewals:
    """Whether all rows of changes are sure: then the table, otherwise the least row that is not, and two readings."""

    def __init__(self, shelf, style):
        meet(shelf[0].tongue, style)
        self.shelf = shelf
        self._pairs = pairs_of_books(shelf, style)
        steps = [(number, change + 1, behind) for number in range(len(shelf))
                 for change, (behind, _) in enumerate(shelf.follow(number))]
        unsure = [step for step in steps if not self.sure(step[0], step[1])]
        self.row = None
        self.pair = None
        self.table = tuple(steps)
        if len(unsure) > 0:
            # Books are listed in the order of the least rows that lead to them.
            number, change, behind = unsure[0]
            self.row = (*shelf.way(number), change)
            self.pair = self._pairs[number, behind]
            self.table = None

    def __bool__(self):
        return self.row is None

    def sure(self, n, k):
        """Whether the change k, from 1, is sure on the book n."""
        follow = self.shelf.follow(n)
        if not is_below(k, len(follow) + 1) or k == 0:
            raise BadRow(0)
        return self._pairs.get((n, follow[k - 1][0]), None) is None


def renewed(shelf, style, page, row):
    """The page, and the pages behind each change of a row, each told by the page ahead of it."""
    pages = [checked_page(page)]
    shelf.after(row)
    meet(shelf[0].tongue, style)
    # An error bears the page as it was passed, until it is renewed.
    here = page
    number = 0
    for change in row:
        behind = shelf.follow(number)[change - 1][0]
        if behind != number:
            here = told_by(Road(shelf[number]), here, Road(shelf[behind]), style)
        pages.append(kept(here))
        number = behind
    return tuple(pages)
