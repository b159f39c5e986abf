"""What a page tells by itself of its source."""

from keptacross.errors import NoSource, Unsettled
from keptacross.pagewalk import PageWalk, checked_page
from keptacross.styles import meet
from keptacross.wants import check_want, meet_want


def wanted_so_far(walk):
    """What has been wanted behind all readings that lead to each live node; None if it is not one thing for each."""
    rows = [None] * len(walk.nodes)
    rows[0] = ()
    for number, follow in enumerate(walk.follows):
        for _, _, due, behind in follow:
            row = rows[number] + due
            if rows[behind] is None:
                rows[behind] = row
            elif rows[behind] != row:
                return None
    return rows


def wanted_of_all(walk, want):
    """What is wanted of all sources of a page that has some, None if it is not the same."""
    rows = wanted_so_far(walk)
    if rows is None:
        return None
    told = [row + want.finish(node[3]) for node, row, end in zip(walk.nodes, rows, walk.ends) if end]
    return told[0] if all([row == told[0] for row in told]) else None


def told_by(road, page, want, style):
    """What is wanted of all readings of the style that have this page."""
    tokens = checked_page(page)
    check_want(want)
    meet(road.books[0].tongue, style)
    meet_want(want, style)
    walk = PageWalk(road, tokens, want, style)
    if len(walk.nodes) == 0:
        raise NoSource(page)
    row = wanted_of_all(walk, want)
    if row is None:
        raise Unsettled(page)
    return row
