"""What the document tells of carrying, written down once more and as plainly as can be, and books made by chance."""

import random

from keptacross.books import Book
from keptacross.styles import Style
from keptacross.terms import Term
from keptacross.tongues import Tongue
from keptacross.wordmaps import WordMap


def pieces(book, reading):
    """The pieces (place, width, name, said) of a row of tokens with picks, carried in one go."""
    tongue = book.tongue
    watched = {term.scope[1] for term in book.terms if term.scope[0] == "behind"}
    maps = dict(book.turns)
    chapter, quoted, met, used, waiting = "", False, set(), set(), []
    place = 0
    found = []

    def holds(term):
        kind = term.scope[0]
        return {"work": True, "in": kind == "in" and chapter == term.scope[1],
                "behind": kind == "behind" and term.scope[1] in met,
                "plain": not quoted, "quoted": quoted}[kind]

    def fits(term):
        rest = [token for token, _ in reading[place:]]
        if len(rest) < len(term.pattern):
            return False
        return all(item == "_" or item == token for item, token in zip(term.pattern, rest))

    while place < len(reading):
        ready = [(-len(term.pattern), rank) for rank, term in enumerate(book.terms) if holds(term) and fits(term)]
        term = book.terms[min(ready)[1]] if ready else None
        word, pick = reading[place]
        if term is None:
            width, said = 1, [word]
        else:
            width = len(term.pattern)
            if term.first is not None and term.name not in used:
                way = term.first
                used.add(term.name)
            else:
                way = term.ways[pick % len(term.ways)]
            said = []
            for item in way:
                if item != "_":
                    said.append(item)
                    continue
                inner = reading[place + 1][0]
                single = [other for other in book.terms if other.pattern == (inner,) and holds(other)]
                said.extend(single[0].ways[0] if single else [inner])
        for k, token in enumerate(said):
            if not token.startswith("*"):
                for word_map in waiting:
                    said[k] = dict(word_map.pairs).get(said[k], said[k])
                waiting = []
                break
        if term is not None and term.turn is not None:
            waiting = waiting + [maps[term.turn]]
        for token, _ in reading[place:place + width]:
            if token in tongue.headings:
                chapter, quoted, met, used = token, False, set(), set()
                continue
            if token == tongue.quote:
                quoted = not quoted
            if token in watched:
                met.add(token)
        found.append((place, width, None if term is None else term.name, tuple(said)))
        place += width
    return found


def page(book, reading):
    """The page of a row of tokens with picks."""
    return tuple(token for piece in pieces(book, reading) for token in piece[3])


def road_page(books, reading):
    """The page of a reading along some books."""
    tokens = page(books[0], reading)
    for book in books[1:]:
        tokens = page(book, [(token, 0) for token in tokens])
    return tokens


def some_way(chance, gap, words):
    items = [chance.choice(words + ["*" + words[0], "x", "y"]) for _ in range(chance.choice([0, 1, 1, 1, 2, 3]))]
    if gap:
        items.insert(chance.randrange(len(items) + 1), "_")
    return tuple(items)


def some_term(chance, name, tongue, turns):
    words = list(tongue.words)
    pattern = [chance.choice(words) for _ in range(chance.choice([1, 1, 2, 2, 3, 3]))]
    if len(pattern) == 3 and chance.random() < 0.6:
        pattern[1] = "_"
    gap = "_" in pattern
    scopes = [("work",), ("work",), ("plain",), ("quoted",)]
    scopes += [("in", word) for word in tongue.headings]
    scopes += [("behind", word) for word in tongue.words if word not in tongue.headings]
    ways = tuple(some_way(chance, gap, words) for _ in range(chance.randint(1, 3)))
    first = some_way(chance, gap, words) if chance.random() < 0.4 else None
    turn = chance.choice([name for name, _ in turns]) if turns and chance.random() < 0.4 else None
    return Term(name, tuple(pattern), ways, scope=chance.choice(scopes), first=first, turn=turn)


def some_map(chance, words):
    return WordMap.of(tuple((word, chance.choice(words + ["x", "y"])) for word in words + ["x"]
                            if chance.random() < 0.6))


def some_tongue(chance, many):
    words = tuple("abcdefgh"[:many])
    headings = tuple(word for word in words if chance.random() < 0.2)
    others = [word for word in words if word not in headings]
    return Tongue(words, headings=headings, quote=chance.choice(others + [None]) if others else None)


def some_book(seed, many=4, terms=8):
    chance = random.Random(seed)
    tongue = some_tongue(chance, many)
    words = list(tongue.words)
    turns = tuple((name, some_map(chance, words)) for name in ("k", "m") if chance.random() < 0.7)
    made = tuple(some_term(chance, "t" + "abcdefgh"[k], tongue, turns) for k in range(chance.randint(0, terms)))
    return Book(tongue, made, turns=turns)


def some_reading(seed, book, length):
    chance = random.Random(seed)
    return tuple((chance.choice(book.tongue.words), chance.randint(0, 2)) for _ in range(length))


def free(book):
    """The style of all texts of a book's tongue."""
    return Style.free(book.tongue.words)


def cats():
    """The book of the example of [6]."""
    tongue = Tongue(("big", "cat", "sees", "the"))
    terms = (Term("a", ("the",), (("les",),), turn="many"),
             Term("b", ("cat",), (("chat",), ("minou",))),
             Term("c", ("big", "cat"), (("lion",),)),
             Term("d", ("sees", "_", "cat"), (("voit", "_", "chat"),)))
    return Book(tongue, terms, turns=(("many", WordMap((("chat", "chats"),))),))
