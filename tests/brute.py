"""Plain searches over all short texts and readings, small styles, and tables that are spoilt in each way."""

import itertools
import random

import plain
from keptacross.errors import TooMany
from keptacross.roads import Road
from keptacross.rules import Rules
from keptacross.styles import Style

STRANGE = (None, True, False, 0, 1, 5, -1, "", "x", "*n", "_", (), ("x",), [], {}, ((),), ((), ()), 10 ** 39)


def some_style(seed, words):
    """A style with 1 to 3 rooms in which these words may come."""
    chance = random.Random(seed)
    many = chance.choice([1, 1, 2, 2, 3])
    while True:
        rooms = tuple(tuple((word, chance.randrange(many)) for word in words if chance.random() < 0.75)
                      for _ in range(many))
        ends = tuple(room for room in range(many) if chance.random() < 0.6)
        if ends and any(rooms[0]):
            try:
                return Style(rooms, ends)
            except ValueError:
                continue


def some_road(seed, many=2, terms=3, books=None):
    """A road of books made by chance."""
    books = books or 1 + seed % 3
    return Road(*[plain.some_book(seed + 1000 * k, many=many, terms=terms) for k in range(books)])


def some_rules(seed, words):
    """Rules of some rows of one or two tokens."""
    chance = random.Random(seed)
    tokens = list(words) + ["x", "y", "*" + words[0]]
    rows = {tuple(chance.choice(tokens) for _ in range(chance.choice([1, 2, 2, 2]))) for _ in range(chance.randint(0, 4))}
    return Rules(sorted(rows))


def texts(style, length):
    """The texts of a style with at most so many words, in order."""
    words = style.vocabulary
    return [text for many in range(length + 1) for text in itertools.product(words, repeat=many) if style.reads(text)]


def readings(style, picks, length):
    """The readings of a style with at most so many words, in order."""
    words = [(word, pick) for word in style.vocabulary for pick in range(picks)]
    return [reading for many in range(length + 1) for reading in itertools.product(words, repeat=many)
            if style.reads([word for word, _ in reading])]


def page(road, reading):
    """The page of a reading along a road, by the plain telling."""
    return plain.road_page(road.books, reading)


def asked(make):
    """What is made, None if there is too much of it."""
    try:
        return make()
    except TooMany:
        return None


def as_lists(thing):
    """Lists in the place of tuples, at any depth."""
    return [as_lists(part) for part in thing] if isinstance(thing, tuple) else thing


def strip(one, other):
    """What is left of both rows when what both begin with is taken off; None if both are left with something."""
    one, other = list(one), list(other)
    while one and other and one[0] == other[0]:
        one.pop(0)
        other.pop(0)
    return None if one and other else (tuple(one), tuple(other))


def judge(table, form, firsts, good):
    """Judges a table as the interface tells, with a plain way to tell what form rows have and what bars them."""
    if not isinstance(table, (tuple, list)) or not table:
        return -1
    rows = [as_tuples(thing) if form(as_tuples(thing)) else None for thing in table]
    if any(first not in rows for first in firsts):
        return -1
    for number, row in enumerate(rows):
        if row is None or not good(row, rows):
            return number
    return None


def as_tuples(thing):
    """Tuples in the place of lists, at any depth."""
    return tuple(as_tuples(part) for part in thing) if isinstance(thing, (tuple, list)) else thing


def spoilt(table, seed, tuples=(), others=()):
    """Tables made from a right one: spoilt in each way. The members at the places named in tuples are standings."""
    chance = random.Random(seed)
    yield as_lists(table)
    yield list(table)
    for thing in (None, "", "abc", 5, {}, {1: 2}, True, (), [], (None,), ((),), "ab"):
        yield thing
    for k in range(len(table)):
        yield table[:k] + table[k + 1:]
        yield table[:k] + (table[k],) + table[k:]
        yield table[k:] + table[:k]
        yield table[:k] + (table[k][:-1],) + table[k + 1:]
        yield table[:k] + (table[k] + (0,),) + table[k + 1:]
        yield table[:k] + (chance.choice(STRANGE),) + table[k:]
        yield table[:k] + (chance.choice(STRANGE),) + table[k + 1:]
        for place in range(len(table[k])):
            things = chance.sample(STRANGE, 4) + list(others)
            # Tuples that are no standings are not passed.
            things = [thing for thing in things if not (place in tuples and isinstance(thing, (tuple, list)))]
            for thing in things + [chance.choice(table)[place]]:
                row = table[k][:place] + (thing,) + table[k][place + 1:]
                yield table[:k] + (row,) + table[k + 1:]
                yield table[:k + 1] + (row,) + table[k + 1:]
