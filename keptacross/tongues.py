"""Tongues: the words of a text, its headings and its quote."""

from keptacross.errors import BadTongue
from keptacross.rows import is_lot, kept
from keptacross.words import is_word


class Tongue:
    """A tongue has 1 to 8 words; some may be headings, and one that is none may be its quote."""

    def __init__(self, words, *, headings=(), quote=None):
        if not is_lot(words, is_word) or not 1 <= len(words) <= 8:
            raise BadTongue("words")
        if not is_lot(headings, is_word) or not all([word in words for word in headings]):
            raise BadTongue("headings")
        if quote is not None and (quote not in words or quote in headings):
            raise BadTongue("quote")
        self.words = kept(words)
        self.headings = kept(headings)
        self.quote = quote

    def __len__(self):
        return len(self.words)

    def __iter__(self):
        return iter(self.words)

    def __contains__(self, word):
        return word in self.words

    def __eq__(self, other):
        return (isinstance(other, Tongue) and self.words == other.words
                and self.headings == other.headings and self.quote == other.quote)
