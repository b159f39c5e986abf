"""Words, notes and tokens."""

GAP = "_"


def is_word(thing):
    """Whether the thing is a string of 1 to 8 letters from a to z."""
    if not isinstance(thing, str) or not 1 <= len(thing) <= 8:
        return False
    return all(["a" <= sign <= "z" for sign in thing])


def is_note(thing):
    """Whether the thing is * and a word."""
    return isinstance(thing, str) and thing[:1] == "*" and is_word(thing[1:])


def is_token(thing):
    """Whether the thing is a word or a note."""
    return is_word(thing) or is_note(thing)
