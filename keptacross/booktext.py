"""The lines of terms and books."""

from keptacross.books import Book
from keptacross.linereader import LineReader
from keptacross.terms import WORD_SCOPES, WORK, Term, is_item, is_pattern_item
from keptacross.tongues import Tongue
from keptacross.wordmaps import WordMap, is_pair_of_words
from keptacross.words import is_word


def line_of(name, items):
    """The line with this name and these items."""
    return " ".join([name, *items])


def way_lines(ways):
    """The lines of ways."""
    return [line_of("way", way) for way in ways]


def write_term(term):
    """The lines of a term."""
    lines = [line_of("term", (term.name, *term.pattern))] + way_lines(term.ways)
    if term.first is not None:
        lines.append(line_of("first", term.first))
    if term.scope != WORK:
        lines.append(line_of("scope", term.scope))
    if term.turn is not None:
        lines.append(line_of("turns", (term.turn,)))
    return tuple(lines)


def write_book(book):
    """The lines of a book."""
    lines = [line_of("words", book.tongue.words)]
    if len(book.tongue.headings) > 0:
        lines.append(line_of("headings", book.tongue.headings))
    if book.tongue.quote is not None:
        lines.append(line_of("quote", (book.tongue.quote,)))
    for name, word_map in book.turns:
        lines.append(line_of("turn", [name] + [f"{word}:{other}" for word, other in word_map.pairs]))
    for term in book.terms:
        lines.extend(write_term(term))
    return (*lines, "end")


def is_pair_text(text):
    """Whether a word of a line is two words, joined by a colon."""
    return is_pair_of_words(text.split(":"))


def is_scope_word(text):
    """Whether a word of a line can stand behind scope in the lines of a term."""
    return text in ("in", "behind", "plain", "quoted")


def read_ways(reader):
    """Reads the lines of 1 to 3 ways."""
    ways = []
    while len(ways) == 0 or len(ways) < 3 and reader.head() == "way":
        reader.take("way")
        ways.append(reader.rest(is_item, 0, 6))
    return tuple(ways)


def read_scope(reader, good):
    """Reads the rest of a line, a scope that begins with a good word."""
    kind = reader.one(good)
    scope = (kind, reader.one(is_word)) if kind in WORD_SCOPES else (kind,)
    reader.shut()
    return scope


def read_parts(reader):
    """Reads the lines of a term: what it is made of, in the order of the parameters of Term."""
    reader.take("term")
    name = reader.one(is_word)
    pattern = reader.rest(is_pattern_item, 1, 3)
    ways = read_ways(reader)
    first = None
    scope = WORK
    turn = None
    if reader.head() == "first":
        reader.take("first")
        first = reader.rest(is_item, 0, 6)
    if reader.head() == "scope":
        reader.take("scope")
        scope = read_scope(reader, is_scope_word)
    if reader.head() == "turns":
        reader.take("turns")
        turn = reader.rest(is_word, 1, 1)[0]
    return name, pattern, ways, scope, first, turn


def term_of(parts):
    """The term that is made of these parts; BadTerm if there is none."""
    name, pattern, ways, scope, first, turn = parts
    return Term(name, pattern, ways, scope=scope, first=first, turn=turn)


def read_term(lines):
    """The term that is written in these lines."""
    reader = LineReader(lines)
    parts = read_parts(reader)
    reader.past()
    return term_of(parts)


def read_tongue(reader):
    """Reads the lines of a tongue: its words, headings and quote."""
    headings = ()
    quote = None
    reader.take("words")
    words = reader.rest(is_word, 1)
    if reader.head() == "headings":
        reader.take("headings")
        headings = reader.rest(is_word, 1)
    if reader.head() == "quote":
        reader.take("quote")
        quote = reader.rest(is_word, 1, 1)[0]
    return words, headings, quote


def read_turn(reader):
    """Reads the line of a turn: its name, and its pairs."""
    reader.take("turn")
    name = reader.one(is_word)
    pairs = reader.rest(is_pair_text, 0)
    return name, tuple([tuple(pair.split(":")) for pair in pairs])


def read_book(lines):
    """The book that is written in these lines."""
    reader = LineReader(lines)
    words, headings, quote = read_tongue(reader)
    turns = []
    while reader.head() == "turn":
        turns.append(read_turn(reader))
    terms = []
    while reader.head() == "term":
        terms.append(read_parts(reader))
    reader.take("end")
    reader.shut()
    reader.past()
    tongue = Tongue(words, headings=headings, quote=quote)
    maps = [(name, WordMap(pairs)) for name, pairs in turns]
    return Book(tongue, [term_of(parts) for parts in terms], turns=maps)
