"""States by what is said from them on, whatever comes: what is said in any case, and what is left of it."""


def shared_beginning(one, other):
    """The longest row with which both rows begin."""
    length = min(len(one), len(other))
    for place in range(length):
        if one[place] != other[place]:
            return one[:place]
    return one[:length]


def some_pages(outlook):
    """For each state, what is said from there on, to the end of the text, for one row of words that ends there."""
    pages = [outlook.ending(number) for number in range(len(outlook))]
    # From each room some end is less than six words away.
    while None in pages:
        longer = list(pages)
        for number in range(len(pages)):
            if pages[number] is None:
                ahead = [said + pages[behind] for _, _, said, behind in outlook.follow(number)
                         if pages[behind] is not None]
                longer[number] = ahead[0] if len(ahead) > 0 else None
        pages = longer
    return pages


def said_in_any_case(outlook):
    """For each state, the longest row with which all begins that can be said from there on.

    Each row is cut down to what all steps let it begin with, until nothing is cut any more.
    """
    rows = some_pages(outlook)
    ahead = [[] for _ in rows]
    for number in range(len(rows)):
        for behind in sorted(set([step[3] for step in outlook.follow(number)])):
            ahead[behind].append(number)
    waiting = {number: True for number in range(len(rows))}
    while len(waiting) > 0:
        cut = {}
        for number in list(waiting):
            row = rows[number]
            ending = outlook.ending(number)
            if ending is not None:
                row = shared_beginning(row, ending)
            for _, _, said, behind in outlook.follow(number):
                row = shared_beginning(row, said + rows[behind])
            if row != rows[number]:
                rows[number] = row
                cut.update({other: True for other in ahead[number]})
        waiting = cut
    return rows


def left_of(outlook, number, rows):
    """What a state says at the end and by each step, when all that is said in any case is said at once."""
    begun = len(rows[number])
    ending = outlook.ending(number)
    left = None if ending is None else ending[begun:]
    return left, tuple([(said + rows[behind])[begun:] for _, _, said, behind in outlook.follow(number)])


def numbered(kinds):
    """The numbers of kinds, in the order in which they come first."""
    numbers = {}
    for kind in kinds:
        numbers.setdefault(kind, len(numbers))
    return [numbers[kind] for kind in kinds]


def parts_of(outlook):
    """For each state the number of its part: in one part are the states with one room from which the same is said."""
    rows = said_in_any_case(outlook)
    left = [left_of(outlook, number, rows) for number in range(len(rows))]
    parts = numbered([(outlook[number][0], *left[number]) for number in range(len(rows))])
    many = 0
    # States of one part are told apart by the parts to which they lead, until that makes no more parts.
    while many < max(parts) + 1:
        many = max(parts) + 1
        parts = numbered([(parts[number], tuple([parts[step[3]] for step in outlook.follow(number)]))
                          for number in range(len(rows))])
    return numbered([(part, row) for part, row in zip(parts, rows)])
