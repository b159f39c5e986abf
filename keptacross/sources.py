"""The graph of the sources of a page."""

from keptacross.pagewalk import PageWalk, checked_page
from keptacross.styles import meet
from keptacross.wants import Words


class Sources:
    """The live nodes of a page, their steps to live nodes, and whether they can end."""

    def __init__(self, road, page, style):
        tokens = checked_page(page)
        meet(road.books[0].tongue, style)
        # Where nothing is wanted, nodes are told apart by room, standing and place alone.
        walk = PageWalk(road, tokens, Words(()), style)
        self.graph = tuple([(node[:3], tuple([(word, pick, behind) for word, pick, _, behind in follow]), int(end))
                            for node, follow, end in zip(walk.nodes, walk.follows, walk.ends)])

    def __len__(self):
        return len(self.graph)

    def __iter__(self):
        return iter(self.graph)

    def __bool__(self):
        return bool(len(self.graph) > 0)
