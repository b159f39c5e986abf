"""The least lots of chapters that are enough in full."""

from keptacross.notes import lots_of
from keptacross.readers import Paths, check_links
from keptacross.rows import kept
from keptacross.works import checked_work


def least_fulls(book, chapters, links, starts):
    """The least lots of chapters such that all paths are kept when just these are in full, in order."""
    work = checked_work(book.tongue, chapters)
    check_links(work, links, starts)
    least = []
    for lot in lots_of(list(range(len(work)))):
        if not any([all([number in lot for number in part]) for part in least]):
            _, path = Paths(book, work, kept(links), kept(starts), lot).gone_through()
            if path is None:
                least.append(lot)
    return tuple(least)
