"""What rows of turners do to words: leading one to another, and gathering some."""

from keptacross.errors import BadLot
from keptacross.rows import is_lot, kept
from keptacross.wordmaps import image, images_of
from keptacross.words import is_word


def checked_words(words):
    """An ascending row of at least one word, as a tuple; BadLot if it is none."""
    if not is_lot(words, is_word) or len(words) == 0:
        raise BadLot(words)
    return kept(words)


def led(turners, word, other):
    """The least row that maps a word to the other one, None if there is none."""
    for pairs, row, _ in turners.table:
        if image(pairs, word) == other:
            return row
    return None


def gathers(pairs, words):
    """Whether a map maps all these words to one word."""
    return len(set(images_of(pairs, words))) == 1


def gathered(turners, words):
    """The least row that maps all these words to one word, None if there is none."""
    lot = checked_words(words)
    for pairs, row, _ in turners.table:
        if gathers(pairs, lot):
            return row
    return None


def surely_gathered(turners, words):
    """The least number of names behind which each row has mapped all these words to one, None if there is none."""
    lot = checked_words(words)
    apart = [not gathers(pairs, lot) for pairs, _, _ in turners.table]
    left = [0] if apart[0] else []
    # A row that keeps words apart for as many names as there are maps does some map twice, and can go on so.
    for names in range(len(apart)):
        if len(left) == 0:
            return names
        ahead = sorted(set([number for at in left for number in turners.table[at][2]]))
        left = [number for number in ahead if apart[number]]
    return None
