"""The scopes that a term can have, those that do the same, and terms that can be exchanged."""

from keptacross.books import Book
from keptacross.errors import BadBook, NoTerm
from keptacross.needless import Comparer
from keptacross.rows import kept
from keptacross.terms import WORK, Term


def scopes_of(tongue):
    """The scopes that a term can have in a tongue, in their order."""
    headed = [("in", word) for word in tongue.headings]
    behind = [("behind", word) for word in tongue.words if word not in tongue.headings]
    return (WORK, *headed, *behind, ("plain",), ("quoted",))


def scoped(term, scope):
    """The term with another scope."""
    return Term(term.name, term.pattern, term.ways, scope=scope, first=term.first, turn=term.turn)


def with_scope(book, name, scope):
    """The book with another scope for a term."""
    if name not in book:
        raise NoTerm(name)
    if kept(scope) not in scopes_of(book.tongue):
        raise BadBook("terms")
    terms = [scoped(term, scope) if term.name == name else term for term in book.terms]
    return Book(book.tongue, terms, turns=book.turns)


def same_scopes(book, style, name):
    """The scopes that do the same for a term, in order."""
    if name not in book:
        raise NoTerm(name)
    comparer = Comparer(book, style)
    return tuple([scope for scope in scopes_of(book.tongue) if comparer.is_alike(with_scope(book, name, scope))])


def exchanged(book, rank):
    """The book in which the term of this rank stands behind the next one."""
    terms = book.terms
    changed = (*terms[:rank], terms[rank + 1], terms[rank], *terms[rank + 2:])
    return Book(book.tongue, changed, turns=book.turns)


def exchangeable(book, style):
    """The pairs of names that stand side by side and can be exchanged, in rank."""
    comparer = Comparer(book, style)
    names = book.names
    return tuple([names[rank:rank + 2] for rank in range(len(names) - 1)
                  if comparer.is_alike(exchanged(book, rank))])
