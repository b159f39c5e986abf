"""Going along the readings of a style that have a given page, with what is wanted of them."""

from keptacross.errors import BadPage
from keptacross.known import SideWalk
from keptacross.rows import is_row, kept
from keptacross.search import explored, reaching
from keptacross.words import is_token

MOST_NODES = 600
MOST_TOKENS = 60


def checked_page(page):
    """A page, as a tuple; BadPage if it is none."""
    if not is_row(page) or len(page) > MOST_TOKENS:
        raise BadPage(-1)
    for number, token in enumerate(page):
        if not is_token(token):
            raise BadPage(number)
    return kept(page)


def steps_of_node(walk, page, node):
    """The steps from a node: word, pick, what is wanted, and the node behind it."""
    room, standing, place, wanting = node
    return [(word, pick, due, (leads, ahead, place + len(said), behind))
            for word, pick, said, due, (leads, ahead, behind) in walk.steps((room, standing, wanting))
            if page[place:place + len(said)] == said]


def can_end(walk, page, node):
    """Whether a node can end: what is said then is just the rest of the page."""
    room, standing, place, wanting = node
    end = walk.end((room, standing, wanting))
    return end is not None and end[0] == page[place:]


class PageWalk:
    """The live nodes of a page, as they are found: their steps to live nodes, and whether they can end."""

    def __init__(self, road, page, want, style):
        walk = SideWalk(road, want, style)
        numbers, follows, _ = explored([(0, road.beginning, 0, want.beginning)],
                                       lambda node: steps_of_node(walk, page, node), MOST_NODES, "node")
        nodes = list(numbers)
        ends = [can_end(walk, page, node) for node in nodes]
        live = reaching(follows, [number for number, end in enumerate(ends) if end])
        # What leads to a live node is live: so the live nodes stand in the order in which they are found among them.
        places = {number: place for place, number in enumerate([n for n in range(len(nodes)) if live[n]])}
        self.nodes = [nodes[number] for number in places]
        self.ends = [ends[number] for number in places]
        self.follows = [tuple([(*step[:3], places[step[3]]) for step in follows[number] if live[step[3]]])
                        for number in places]
