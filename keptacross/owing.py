"""What is owed when two pages are gone along at once, and pairs of states that are gone along so."""

from keptacross.search import explored

NOTHING = ((), ())
MOST_PAIRS = 1000


def owed_behind(owed, one, other):
    """What is owed when the one page and the other page go on, None if they part."""
    first = owed[0] + one
    second = owed[1] + other
    if len(first) <= len(second):
        return ((), second[len(first):]) if second[:len(first)] == first else None
    return (first[len(second):], ()) if first[:len(second)] == second else None


def moved(owed, place, row):
    """What is owed when only one of both goes on, the one page at the place 0 or the other one at the place 1."""
    return owed_behind(owed, row, ()) if place == 0 else owed_behind(owed, (), row)


def paired(start, steps_from):
    """The pairs that can come from a first one, and the steps of each: a label, what both say, and a number."""
    numbers, follows, _ = explored([start], steps_from, MOST_PAIRS, "pair")
    return list(numbers), follows


def is_unlike(owed, ending):
    """Whether pages are unlike, of which this is owed, None if they part, when this is said at the end by both."""
    return ending is not None and (owed is None or owed_behind(owed, ending[0], ending[1]) != NOTHING)


def labels_to(nodes, at):
    """The labels that lead to a node; each one tells the place of the node ahead of it, and a label, at its end."""
    labels = []
    while nodes[at][2] is not None:
        labels.append(nodes[at][3])
        at = nodes[at][2]
    return tuple(labels[::-1])


def compared(follows, endings):
    """What is owed at each pair, and None; or None, and the least row of labels behind which unlike things are said.

    For each pair its steps are told, as above, and what both say at the end, None if it is no end. Two things that
    are owed at one pair, or parted pages, mean that one of them comes to an end unlike: so of no pair more than two
    things are gone on with, those that come by the least rows.
    """
    nodes = [(0, NOTHING, None, None)]
    found = [[] for _ in follows]
    found[0].append(NOTHING)
    at = 0
    while at < len(nodes):
        number, owed, _, _ = nodes[at]
        if is_unlike(owed, endings[number]):
            return None, labels_to(nodes, at)
        for label, one, other, ahead in follows[number]:
            behind = None if owed is None else owed_behind(owed, one, other)
            if len(found[ahead]) < 2 and behind not in found[ahead]:
                found[ahead].append(behind)
                nodes.append((ahead, behind, at, label))
        at += 1
    return [owed[0] for owed in found], None
