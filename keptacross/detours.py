"""Ways round: rows of changes that are sure, or that need the fewest lookings, and books that lead back."""

from keptacross.known import Known
from keptacross.roads import Road
from keptacross.search import least_row
from keptacross.styles import meet


def check_books(renewals, n, m):
    """NoBook with the first of both numbers that is none of a book."""
    for number in (n, m):
        renewals.shelf.follow(number)


def steps_of(renewals, number):
    """The steps from a book: the change, whether it is sure, and the number of the book behind it."""
    return [(place + 1, renewals.sure(number, place + 1), behind)
            for place, (behind, _) in enumerate(renewals.shelf.follow(number))]


def detour(renewals, n, m):
    """The least row of changes from one book to another that are all sure, None if there is none."""
    check_books(renewals, n, m)
    return least_row(n, lambda here: [(change, behind) for change, sure, behind in steps_of(renewals, here) if sure],
                     lambda here: here == m)


def lookings(renewals, n, m):
    """The least number of changes between two books that are not sure, and the least row with so many, or None."""
    check_books(renewals, n, m)
    # For each book the number of lookings, the number of changes, and the row: the least of all that lead there.
    best = {n: (0, 0, ())}
    waiting = [n]
    at = 0
    while at < len(waiting):
        here = waiting[at]
        many, length, row = best[here]
        for change, sure, behind in steps_of(renewals, here):
            found = (many if sure else many + 1, length + 1, (*row, change))
            if behind not in best or found < best[behind]:
                best[behind] = found
                waiting.append(behind)
        at += 1
    return (best[m][0], best[m][2]) if m in best else None


def leading_back(shelf, style):
    """The numbers of the books that are the first one, or whose pages tell what the first one makes, ascending."""
    meet(shelf[0].tongue, style)
    first = Road(shelf[0])
    return tuple([number for number, book in enumerate(shelf) if number == 0 or Known(Road(book), first, style)])
