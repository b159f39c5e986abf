"""Changes of books: carried out, or idle."""

from keptacross.books import Book, is_scope_of, suits
from keptacross.errors import BadChange, BadMenu
from keptacross.rows import is_row, kept
from keptacross.scopes import scoped
from keptacross.terms import Term, are_ways, is_row_of_items, is_scope, is_way
from keptacross.words import is_word

DONE = "done"
MOST_TERMS = 8


def is_addition(thing):
    """Whether the thing is what an added term is told by."""
    return len(thing) == 1 and isinstance(thing[0], Term)


def is_name_alone(thing):
    """Whether the thing is a row of one word."""
    return len(thing) == 1 and is_word(thing[0])


def are_new_ways(thing):
    """Whether the thing is a name and ways, however many gaps they have."""
    if len(thing) != 2 or not is_word(thing[0]) or not is_row(thing[1]) or not 1 <= len(thing[1]) <= 3:
        return False
    return all([is_row_of_items(way) for way in thing[1]])


def is_new_first(thing):
    """Whether the thing is a name and a way or None."""
    return len(thing) == 2 and is_word(thing[0]) and (thing[1] is None or is_row_of_items(thing[1]))


def is_new_scope(thing):
    """Whether the thing is a name and a scope."""
    return len(thing) == 2 and is_word(thing[0]) and is_scope(thing[1])


def are_two_words(thing):
    """Whether the thing is a row of two words."""
    return len(thing) == 2 and is_word(thing[0]) and is_word(thing[1])


FORMS = {
    "add": is_addition, "drop": is_name_alone, "rise": is_name_alone, "ways": are_new_ways,
    "first": is_new_first, "scope": is_new_scope, "say": are_two_words,
}


def is_change(thing):
    """Whether the thing has one of the forms of changes."""
    if not is_row(thing) or len(thing) == 0 or not isinstance(thing[0], str) or thing[0] not in FORMS:
        return False
    has_form = FORMS[thing[0]]
    return has_form(thing[1:])


def with_terms(book, terms):
    """The book with other terms."""
    return Book(book.tongue, terms, turns=book.turns)


def with_term(book, changed_term):
    """The book with another term of the same name in its place."""
    return with_terms(book, [changed_term if term.name == changed_term.name else term for term in book.terms])


def remade(term, ways, first):
    """The term with other ways and another first way."""
    return Term(term.name, term.pattern, ways, scope=term.scope, first=first, turn=term.turn)


def added(book, term):
    """The book with a term behind all others, and why it is as it was."""
    if term.name in book:
        return book, "twice"
    if len(book) >= MOST_TERMS:
        return book, "many"
    if not suits(term, book.tongue, book.turns):
        return book, "unfit"
    return with_terms(book, (*book.terms, term)), DONE


def dropped(book, name):
    """The book without a term, and why it is as it was."""
    if name not in book:
        return book, "nothing"
    return with_terms(book, [term for term in book.terms if term.name != name]), DONE


def raised(book, name):
    """The book in which a term has the highest rank, and why it is as it was."""
    if name not in book:
        return book, "nothing"
    if book.names[0] == name:
        return book, "same"
    return with_terms(book, [book[name]] + [term for term in book.terms if term.name != name]), DONE


def with_ways(book, name, ways):
    """The book with other ways for a term, and why it is as it was."""
    if name not in book:
        return book, "nothing"
    term = book[name]
    if not are_ways(ways, term.gap):
        return book, "gap"
    if term.ways == ways:
        return book, "same"
    return with_term(book, remade(term, ways, term.first)), DONE


def with_first(book, name, way):
    """The book with another first way for a term, or with none, and why it is as it was."""
    if name not in book:
        return book, "nothing"
    term = book[name]
    if way is not None and not is_way(way, term.gap):
        return book, "gap"
    if term.first == way:
        return book, "same"
    return with_term(book, remade(term, term.ways, way)), DONE


def with_other_scope(book, name, scope):
    """The book with another scope for a term, and why it is as it was."""
    if name not in book:
        return book, "nothing"
    if not is_scope_of(scope, book.tongue):
        return book, "unfit"
    if book[name].scope == scope:
        return book, "same"
    return with_term(book, scoped(book[name], scope)), DONE


def ways_of(term):
    """All ways of a term, the first way too."""
    return term.ways if term.first is None else (*term.ways, term.first)


def said_else(way, word, other):
    """The way in which a word becomes the other one."""
    return tuple([other if item == word else item for item in way])


def with_word(book, word, other):
    """The book in whose ways a word becomes the other one, and why it is as it was."""
    if not any([word in way for term in book.terms for way in ways_of(term)]):
        return book, "nothing"
    if word == other:
        return book, "same"
    return with_terms(book, [remade(term, tuple([said_else(way, word, other) for way in term.ways]),
                                    None if term.first is None else said_else(term.first, word, other))
                             for term in book.terms]), DONE


DEEDS = {
    "add": added, "drop": dropped, "rise": raised, "ways": with_ways,
    "first": with_first, "scope": with_other_scope, "say": with_word,
}


def changed(book, change):
    """The book behind a change, and whether it is done, or why it is idle."""
    if not is_change(change):
        raise BadChange(change)
    told = kept(change)
    deed = DEEDS[told[0]]
    rest = told[1:]
    return deed(book, *rest)


def changed_by(book, changes):
    """The book behind some changes, done one after the other, and the words that they tell."""
    if not is_row(changes):
        raise BadMenu(-1)
    for number, change in enumerate(changes):
        if not is_change(change):
            raise BadMenu(number)
    words = []
    for change in changes:
        book, word = changed(book, change)
        words.append(word)
    return book, tuple(words)
