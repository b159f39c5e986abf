"""Whether two terms ever hold and fit where one piece begins."""

from keptacross.plainstates import PlainStates
from keptacross.uses import check_name


class Fight:
    """Whether two terms ever fight, and the least text in which they do."""

    def __init__(self, book, style, one, other):
        check_name(book, one)
        check_name(book, other)
        self.text = PlainStates(book, style).least_text(lambda cut: one in cut[1] and other in cut[1])

    def __bool__(self):
        return self.text is not None


def fights(book, style):
    """All pairs of terms that ever fight, the one that would be used first, by their ranks."""
    cuts = [ready for row in PlainStates(book, style).all_cuts() for _, ready in row]
    found = []
    for one in book.terms:
        for rank, other in enumerate(book.terms):
            ahead = len(one) > len(other) or len(one) == len(other) and rank > book.names.index(one.name)
            if ahead and any([one.name in ready and other.name in ready for ready in cuts]):
                found.append((one.name, other.name))
    return tuple(found)
