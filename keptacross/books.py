"""Books: a tongue, its terms in rank, and its turns."""

from keptacross.errors import BadBook, NoTerm
from keptacross.rows import ascends, is_row, kept
from keptacross.terms import Term
from keptacross.tongues import Tongue
from keptacross.wordmaps import WordMap
from keptacross.words import GAP, is_word


def is_turner(thing):
    """Whether the thing is a pair of a name and a word map."""
    return is_row(thing) and len(thing) == 2 and is_word(thing[0]) and isinstance(thing[1], WordMap)


def are_turns(thing):
    """Whether the thing is what the turns of a book are."""
    if not is_row(thing) or len(thing) > 4 or not all([is_turner(pair) for pair in thing]):
        return False
    return ascends([pair[0] for pair in thing])


def is_scope_of(scope, tongue):
    """Whether a scope is one that terms of this tongue can have."""
    if scope[0] == "in":
        return scope[1] in tongue.headings
    if scope[0] == "behind":
        return scope[1] in tongue.words and scope[1] not in tongue.headings
    return True


def suits(term, tongue, turns):
    """Whether a term can stand in a book with this tongue and these turns."""
    if not all([item == GAP or item in tongue.words for item in term.pattern]):
        return False
    if term.turn is not None and term.turn not in [pair[0] for pair in turns]:
        return False
    return is_scope_of(term.scope, tongue)


def are_terms(thing, tongue, turns):
    """Whether the thing is what the terms of a book with this tongue and these turns are."""
    if not is_row(thing) or len(thing) > 8 or not all([isinstance(term, Term) for term in thing]):
        return False
    names = [term.name for term in thing]
    return len(set(names)) == len(names) and all([suits(term, tongue, turns) for term in thing])


def by_first_word(terms):
    """The terms, in rank, by the first words of their patterns."""
    found = {}
    for term in terms:
        found.setdefault(term.pattern[0], []).append(term)
    return {word: tuple(found[word]) for word in found}


class Book:
    """A book has a tongue, at most 8 terms, whose order is their rank, and at most 4 turns."""

    def __init__(self, tongue, terms=(), *, turns=()):
        if not isinstance(tongue, Tongue):
            raise BadBook("tongue")
        if not are_turns(turns):
            raise BadBook("turns")
        if not are_terms(terms, tongue, turns):
            raise BadBook("terms")
        self.tongue = tongue
        self.terms = kept(terms)
        self.turns = kept(turns)
        # The words that are met are asked for with each word that is passed.
        self.watched = tuple([term.scope[1] for term in self.terms if term.scope[0] == "behind"])
        # So are the terms that can begin with a word, wherever pieces are cut.
        self.starting = by_first_word(self.terms)

    def __len__(self):
        return len(self.terms)

    def __iter__(self):
        return iter(self.terms)

    def __eq__(self, other):
        return (isinstance(other, Book) and self.tongue == other.tongue
                and self.terms == other.terms and self.turns == other.turns)

    def __contains__(self, name):
        return any([term.name == name for term in self.terms])

    def __getitem__(self, name):
        for term in self.terms:
            if term.name == name:
                return term
        raise NoTerm(name)

    @property
    def names(self):
        """The names of its terms, in rank."""
        return tuple([term.name for term in self.terms])

    @property
    def picks(self):
        """The greatest number of ways of a term, 1 if there are no terms."""
        return max([1] + [len(term.ways) for term in self.terms])

    def turn_of(self, name):
        """The word map of the turn of a term, the one without pairs if it has none."""
        turn = self[name].turn
        for other, word_map in self.turns:
            if other == turn:
                return word_map
        return WordMap()
