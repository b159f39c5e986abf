"""Rows, numbers and lots, as they are passed: what many modules ask of them."""


def is_row(thing):
    """Whether the thing is a tuple, or a list in its place."""
    return isinstance(thing, (tuple, list))


def is_number(thing):
    """Whether the thing is an integer: True and False are none."""
    return isinstance(thing, int) and not isinstance(thing, bool)


def is_below(thing, bound):
    """Whether the thing is an integer from 0 to one less than the bound."""
    return is_number(thing) and 0 <= thing < bound


def kept(thing):
    """The thing, with tuples in the place of lists at any depth."""
    if is_row(thing):
        return tuple([kept(part) for part in thing])
    return thing


def is_plain(thing):
    """Whether the thing is made of rows, strings and integers alone.

    Only such things are looked up: True would else be found where 1 is kept.
    """
    if is_row(thing):
        return all([is_plain(part) for part in thing])
    return isinstance(thing, str) or is_number(thing)


def ascends(row):
    """Whether each thing of a row is above the one ahead of it."""
    return all([row[k] < row[k + 1] for k in range(len(row) - 1)])


def is_lot(thing, good):
    """Whether the thing is an ascending row of good things."""
    return is_row(thing) and all([good(part) for part in thing]) and ascends(thing)
