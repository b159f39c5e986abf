"""What a page tells by itself of its source."""

from keptacross.errors import NoSource, Unsettled
from keptacross.pagewalk import PageWalk, checked_page
from keptacross.styles import meet
from keptacross.wants import check_want, meet_want


def wanted_so_far(walk):
    """What has been wanted behind the readings that lead to each live node, as they come to it first.

    Told besides is by which step each node is first come to, as search tells arrivals; and the first step that comes
    to a node with another thing (as the number of the node ahead, and its place there), None if there is none.
    """
    rows = [None] * len(walk.nodes)
    rows[0] = ()
    arrivals = [None] * len(walk.nodes)
    # Live nodes are numbered as they are found: so what is wanted so far is known when a node's turn comes.
    for number, follow in enumerate(walk.follows):
        for place, (_, _, due, behind) in enumerate(follow):
            row = rows[number] + due
            if rows[behind] is None:
                rows[behind] = row
                arrivals[behind] = (number, place)
            elif rows[behind] != row:
                return rows, arrivals, (number, place)
    return rows, arrivals, None


def wanted_at_ends(walk, want, rows):
    """The pairs of the number of a node that can end, and what is wanted of the sources that lead there."""
    return [(number, rows[number] + want.finish(node[3])) for number, node in enumerate(walk.nodes)
            if walk.ends[number]]


def wanted_of_all(walk, want):
    """What is wanted of all sources of a page that has some, None if it is not the same."""
    rows, _, clash = wanted_so_far(walk)
    if clash is not None:
        return None
    told = [row for _, row in wanted_at_ends(walk, want, rows)]
    return told[0] if all([row == told[0] for row in told]) else None


def told_by(road, page, want, style):
    """What is wanted of all readings of the style that have this page."""
    tokens = checked_page(page)
    check_want(want)
    meet(road.books[0].tongue, style)
    meet_want(want, style)
    walk = PageWalk(road, tokens, want, style)
    if len(walk.nodes) == 0:
        raise NoSource(page)
    row = wanted_of_all(walk, want)
    if row is None:
        raise Unsettled(page)
    return row
