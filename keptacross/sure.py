"""Whether what is wanted is sure for a page: then it is told, otherwise two sources that show that it is not."""

from keptacross.errors import NoSource
from keptacross.pagewalk import PageWalk, checked_page
from keptacross.search import arrived, least_row
from keptacross.styles import meet
from keptacross.telling import Wanted
from keptacross.wants import check_want, meet_want


def text_to(walk, arrivals, number):
    """The words of the steps by which a live node is first come to."""
    return tuple([step[0] for step in arrived(walk.follows, arrivals, number)])


def text_from(walk, number):
    """The words of some way from a live node to the end of a source."""
    return least_row(number, lambda here: [((word, pick), behind) for word, pick, _, behind in walk.follows[here]],
                     lambda here: walk.ends[here])


def unlike_texts(walk, want):
    """What is wanted of all sources, and None; or None, and two sources of which unlike things are wanted."""
    wants = Wanted(walk, want)
    if wants.clash is not None:
        number, place = wants.clash
        word, _, _, behind = walk.follows[number][place]
        # What is wanted of the same words behind the node makes unlike things no more alike.
        rest = tuple([label[0] for label in text_from(walk, behind)])
        one = text_to(walk, wants.arrivals, behind)
        other = text_to(walk, wants.arrivals, number)
        return None, ((*one, *rest), (*other, word, *rest))
    ends = wants.at_ends()
    first, row = ends[0]
    for number, told in ends:
        if told != row:
            return None, (text_to(walk, wants.arrivals, first), text_to(walk, wants.arrivals, number))
    return wants.told(row), None


class Sure:
    """Whether the same is wanted of all sources of a page: then the row, otherwise two sources."""

    def __init__(self, road, page, want, style):
        tokens = checked_page(page)
        check_want(want)
        meet(road.books[0].tongue, style)
        meet_want(want, style)
        walk = PageWalk(road, tokens, want, style)
        if len(walk.nodes) == 0:
            raise NoSource(page)
        self.row, self.pair = unlike_texts(walk, want)

    def __bool__(self):
        return self.pair is None
