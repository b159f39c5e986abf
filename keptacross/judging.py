"""Judging tables, whoever wrote them: the forms that rows can have, and the first row that is wrong."""

from keptacross.rows import is_below, is_number, is_row
from keptacross.words import is_token


def judged(table, checked, firsts, holds):
    """None if a table is right, otherwise the number of its first wrong row, or -1.

    checked tells a thing as a row of tuples, None if it does not have the form of one. The firsts have to be there.
    holds tells whether nothing bars a row, for the row and a dict that has all rows of the table.
    """
    if not is_row(table) or len(table) == 0:
        return -1
    rows = [checked(thing) for thing in table]
    there = {row: True for row in rows if row is not None}
    if not all([first in there for first in firsts]):
        return -1
    for number, row in enumerate(rows):
        if row is None or not holds(row, there):
            return number
    return None


def is_tuple_of(thing, many):
    """Whether the thing is a tuple of so many things, or a list in its place."""
    return is_row(thing) and len(thing) == many


def is_room_of(thing, style):
    """Whether the thing is the number of a room."""
    return is_below(thing, len(style))


def are_strings(thing):
    """Whether the thing is a row of strings."""
    return is_row(thing) and all([isinstance(part, str) for part in thing])


def is_pick_pair(thing):
    """Whether the thing is a pair of a string and an integer."""
    return is_tuple_of(thing, 2) and isinstance(thing[0], str) and is_number(thing[1])


def is_string_pair(thing):
    """Whether the thing is a pair of strings."""
    return is_tuple_of(thing, 2) and are_strings(thing)


def is_standing(thing):
    """Whether the thing can be taken for the standing of a book.

    Tuples that are no standings are not passed: if one is, its row is wrong, and nothing is raised.
    """
    if not is_tuple_of(thing, 6):
        return False
    chapter, quoted, met, used, turn, held = thing
    if not isinstance(chapter, str) or not is_below(quoted, 2) or not are_strings(met) or not are_strings(used):
        return False
    if not is_row(turn) or not all([is_string_pair(pair) for pair in turn]):
        return False
    return is_row(held) and all([is_pick_pair(pair) for pair in held])


def is_road_standing(thing, road):
    """Whether the thing can be taken for the standing of a road."""
    return is_tuple_of(thing, len(road)) and all([is_standing(part) for part in thing])


def is_last(thing):
    """Whether the thing can be the last token that has been said: the empty string if there is none."""
    return is_token(thing) or isinstance(thing, str) and thing == ""


def are_tokens(thing):
    """Whether the thing is a row of tokens."""
    return is_row(thing) and all([is_token(part) for part in thing])


def is_owed(thing):
    """Whether the thing is a pair of rows of tokens of which one is empty."""
    if not is_tuple_of(thing, 2) or not are_tokens(thing[0]) or not are_tokens(thing[1]):
        return False
    return len(thing[0]) == 0 or len(thing[1]) == 0
