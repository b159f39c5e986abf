"""Rows of turners undone, done again and again, and done without."""

from keptacross.turners import checked_row
from keptacross.turnwords import checked_words
from keptacross.wordmaps import images_of


def undone(turners, row, words):
    """The least row that, done behind this one, maps each of these words to itself again, None if there is none."""
    number = turners.along(row)
    lot = checked_words(words)
    turned = images_of(turners.table[number][0], lot)
    for pairs, back, _ in turners.table:
        if images_of(pairs, turned) == lot:
            return back
    return None


def ring(turners, row):
    """The least pair (n, m) such that n and n + m times the row do the same map."""
    steps = [turners.names.index(name) for name in checked_row(turners.names, row)]
    times = {}
    number = 0
    while number not in times:
        times[number] = len(times)
        for step in steps:
            number = turners.table[number][2][step]
    return times[number], len(times) - times[number]


def reached_without(turners, place):
    """How many maps are done by rows without the name at this place."""
    numbers = [0]
    seen = {0: True}
    at = 0
    while at < len(numbers):
        follows = turners.table[numbers[at]][2]
        for number in follows[:place] + follows[place + 1:]:
            if number not in seen:
                seen[number] = True
                numbers.append(number)
        at += 1
    return len(numbers)


def spare(turners):
    """The names without which, each by itself, rows do the same maps."""
    return tuple([name for place, name in enumerate(turners.names)
                  if reached_without(turners, place) == len(turners.table)])
