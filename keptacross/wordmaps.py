"""Word maps: finite maps of words to words, told by the pairs of the words that they change."""

from keptacross.errors import BadMap
from keptacross.rows import ascends, is_row, kept
from keptacross.words import is_word


def is_pair_of_words(thing):
    """Whether the thing is a pair of two words, perhaps equal ones."""
    return is_row(thing) and len(thing) == 2 and is_word(thing[0]) and is_word(thing[1])


def are_pairs(thing):
    """Whether the thing is what a word map is told by."""
    if not is_row(thing) or not all([is_pair_of_words(pair) for pair in thing]):
        return False
    return all([pair[0] != pair[1] for pair in thing]) and ascends([pair[0] for pair in thing])


def image(pairs, word):
    """The word to which the map with these pairs maps a word."""
    for changed, other in pairs:
        if changed == word:
            return other
    return word


def images_of(pairs, words):
    """The words to which the map with these pairs maps some words, in their order."""
    changes = dict(pairs)
    return tuple([changes.get(word, word) for word in words])


def pairs_of(images):
    """The pairs of a map that is given as a dict of words: equal words fall away."""
    return tuple([(word, images[word]) for word in sorted(images) if word != images[word]])


def followed(first, second):
    """The pairs of the map that does the one with the first pairs, and then the other one."""
    behind = dict(second)
    images = dict(second)
    for word, other in first:
        images[word] = behind.get(other, other)
    return pairs_of(images)


class WordMap:
    """A word map, told by its pairs of a word that it changes and the other word."""

    def __init__(self, pairs=()):
        if not are_pairs(pairs):
            raise BadMap(pairs)
        self.pairs = kept(pairs)
        self._images = dict(self.pairs)

    def __len__(self):
        return len(self.pairs)

    def __iter__(self):
        return iter(self.pairs)

    def __eq__(self, other):
        return isinstance(other, WordMap) and self.pairs == other.pairs

    def __contains__(self, word):
        return isinstance(word, str) and word in self._images

    def __call__(self, word):
        """The word to which it maps a word."""
        return self._images.get(word, word)

    def then(self, second):
        """The word map that does this one first, and then the second one."""
        return WordMap(followed(self.pairs, second.pairs))

    @classmethod
    def of(cls, pairs):
        """The word map of any pairs of words: the first one of a word counts."""
        images = {}
        for word, other in pairs:
            images.setdefault(word, other)
        return cls(pairs_of(images))
