"""Lines of books, terms, styles, readings and works: written, read back, and spoilt."""

import random
import unittest

import grammar
import plain
from keptacross.books import Book
from keptacross.booktext import read_book, read_term, write_book, write_term
from keptacross.errors import AcrossError, BadBook, BadLine, BadMap, BadStyle, BadTerm, BadTongue
from keptacross.styles import Style
from keptacross.styletext import read_style, write_style
from keptacross.terms import Term
from keptacross.tongues import Tongue
from keptacross.wordmaps import WordMap
from keptacross.worktext import read_reading, read_work, write_reading, write_work

EXAMPLE = """words cat sea sees the
headings sea
turn many chat:chats
term a the
way les
turns many
term b cat
way chat
way minou
first le chat
scope in sea
end""".split("\n")


class Lines(unittest.TestCase):
    def bad(self, read, lines, line, word):
        with self.subTest(lines=lines):
            with self.assertRaises(BadLine) as caught:
                read(lines)
            self.assertEqual((caught.exception.line, caught.exception.word), (line, word))

    def as_told(self, read, pattern, lines):
        """Whether lines are read; where they leave the pattern has to be told."""
        left = grammar.leaves(pattern, lines)
        try:
            read(lines)
        except BadLine as error:
            self.assertEqual((error.line, error.word), left, lines)
        except AcrossError:
            self.assertIsNone(left, lines)
        else:
            self.assertIsNone(left, lines)

    def spoil(self, read, pattern, texts, times):
        for seed, lines in enumerate(texts):
            self.assertIsNone(grammar.leaves(pattern, lines))
            chance = random.Random(seed)
            for _ in range(times):
                once = grammar.spoilt(chance, lines)
                self.as_told(read, pattern, once)
                self.as_told(read, pattern, grammar.spoilt(chance, once))
            for cut in range(len(lines)):
                self.as_told(read, pattern, lines[:cut])


class Terms(Lines):
    term = Term("t", ("a", "_", "b"), (("_",), ("*n", "_")), scope=("behind", "c"), first=("_", "z"), turn="k")
    lines = ("term t a _ b", "way _", "way *n _", "first _ z", "scope behind c", "turns k")

    def test_written(self):
        self.assertEqual(write_term(self.term), self.lines)
        self.assertEqual(write_term(Term("t", ("a",), ((),))), ("term t a", "way"))
        self.assertEqual(write_term(Term("t", ("a",), ((),), first=(), scope=("plain",))),
                         ("term t a", "way", "first", "scope plain"))
        self.assertEqual(write_term(Term("t", ("a", "b"), (("x",) * 6,), scope=("quoted",), turn="t")),
                         ("term t a b", "way x x x x x x", "scope quoted", "turns t"))

    def test_read_back(self):
        self.assertEqual(read_term(self.lines), self.term)
        self.assertEqual(read_term(list(self.lines)), self.term)
        full = Term("t", ("a", "b", "c"), (("x",) * 6,) * 3, first=("y",) * 6)
        self.assertEqual(read_term(write_term(full)), full)
        for seed in range(100):
            for term in plain.some_book(seed):
                self.assertEqual(read_term(write_term(term)), term)

    def test_bad_lines(self):
        for lines, line, word in [
                ((), 0, 0), (("",), 0, 0), ((" ",), 0, 0), ((None,), 0, 0), (("way",), 0, 0), (("end",), 0, 0),
                (("term",), 0, 1), (("term ",), 0, 1), (("term t",), 0, 2), (("term  t a",), 0, 1),
                (("term t a b c d",), 0, 5), (("term t a b c _",), 0, 5), (("term t *a",), 0, 2), (("term T a",), 0, 1),
                (("term t a",), 1, 0), (("term t a", "way"), None, None), (("term t a", "first x"), 1, 0),
                (("term t a", "way A"), 1, 1), (("term t a", "way a a a a a a a"), 1, 7),
                (("term t a", "way a a a a a a "), 1, 7), (("term t a", "way "), 1, 1), (("term t a", "way a "), 1, 2),
                (("term t a", "way", "way", "way", "way"), 4, 0), (("term t a", "way", "first", "way"), 3, 0),
                (("term t a", "way", "scope"), 2, 1), (("term t a", "way", "scope work"), 2, 1),
                (("term t a", "way", "scope in"), 2, 2), (("term t a", "way", "scope in a b"), 2, 3),
                (("term t a", "way", "scope in *a"), 2, 2), (("term t a", "way", "scope plain a"), 2, 2),
                (("term t a", "way", "scope plain", "first a"), 3, 0), (("term t a", "way", "turns"), 2, 1),
                (("term t a", "way", "turns a b"), 2, 2), (("term t a", "way", "turns a", "scope plain"), 3, 0),
                (("term t a", "way", "turns a", "turns a"), 3, 0), (("term t a", "way", "end"), 2, 0),
                (("term t a", "way", ""), 2, 0), (("term t a", "way", 5), 2, 0), (("term t a", "way", None), 2, 0),
                (("term t a", "way", "first a a a a a a a"), 2, 7), (("term t a", "way", "first a a a a a a "), 2, 7),
                (("term t a", "way", "first", "first"), 3, 0), (("term t a", "way", "term u b", "way"), 2, 0)]:
            if line is None:
                self.assertEqual(read_term(lines), Term("t", ("a",), ((),)))
            else:
                self.bad(read_term, lines, line, word)

    def test_lines_that_tell_no_term(self):
        for lines, word in [(("term t _", "way"), "pattern"), (("term t a _", "way _"), "pattern"),
                            (("term t a", "way _"), "ways"), (("term t a _ b", "way _", "way"), "ways"),
                            (("term t a", "way", "first _"), "first"), (("term t _", "way _", "first _"), "pattern")]:
            with self.assertRaises(BadTerm) as caught:
                read_term(lines)
            self.assertEqual(caught.exception.word, word)

    def test_lines_go_ahead_of_terms(self):
        self.bad(read_term, ("term t _", "way", "scope plain", ""), 3, 0)

    def test_spoilt(self):
        texts = [write_term(term) for seed in range(30) for term in plain.some_book(seed)]
        self.spoil(read_term, grammar.TERM, [self.lines] + texts, 15)


class Books(Lines):
    def example(self):
        tongue = Tongue(("cat", "sea", "sees", "the"), headings=("sea",))
        terms = (Term("a", ("the",), (("les",),), turn="many"),
                 Term("b", ("cat",), (("chat",), ("minou",)), first=("le", "chat"), scope=("in", "sea")))
        return Book(tongue, terms, turns=(("many", WordMap((("chat", "chats"),))),))

    def test_the_example(self):
        self.assertEqual(write_book(self.example()), tuple(EXAMPLE))
        self.assertEqual(read_book(EXAMPLE), self.example())

    def test_what_is_left_out(self):
        self.assertEqual(write_book(Book(Tongue(("a",)))), ("words a", "end"))
        tongue = Tongue(("a", "b"), headings=("a", "b"))
        self.assertEqual(write_book(Book(tongue, turns=(("k", WordMap()), ("m", WordMap((("a", "b"), ("c", "d"))))))),
                         ("words a b", "headings a b", "turn k", "turn m a:b c:d", "end"))
        self.assertEqual(write_book(Book(Tongue(("a",), quote="a"))), ("words a", "quote a", "end"))

    def test_read_back(self):
        for seed in range(150):
            book = plain.some_book(seed, many=1 + seed % 8)
            lines = write_book(book)
            self.assertEqual(read_book(lines), book)
            self.assertEqual(read_book(list(lines)), book)

    def test_bad_lines(self):
        for lines, line, word in [
                ((), 0, 0), (("end",), 0, 0), (("headings a",), 0, 0), (("words",), 0, 1), (("words ",), 0, 1),
                (("words a", "headings"), 1, 1), (("words a", "quote"), 1, 1), (("words a", "quote a b"), 1, 2),
                (("words a", "quote a", "headings a"), 2, 0), (("words a", "words a"), 1, 0),
                (("words a", "headings a", "headings a"), 2, 0), (("words a", "quote a", "quote a"), 2, 0),
                (("words a _",), 0, 2), (("words a  b",), 0, 2), (("words a b ",), 0, 3), ((" words a",), 0, 0),
                (("words a",), 1, 0), (("words a", "turn"), 1, 1), (("words a", "turn k a"), 1, 2),
                (("words a", "turn k a:b a:"), 1, 3), (("words a", "turn k a:b:c"), 1, 2),
                (("words a", "turn k *a:b"), 1, 2), (("words a", "turn k", "quote a"), 2, 0),
                (("words a", "term t a", "way", "turn k"), 3, 0), (("words a", "term t a", "end"), 2, 0),
                (("words a", "term t a", "way"), 3, 0), (("words a", "end", "end"), 2, 0), (("words a", "end", ""), 2, 0),
                (("words a", "end", None), 2, 0), (("words a", "end "), 1, 1), (("words a", "end a"), 1, 1),
                (("words a", True, "end"), 1, 0), (("words a", b"end"), 1, 0), (("words a", ["end"]), 1, 0),
                (("words a", "turns k"), 1, 0), (("words a", "way"), 1, 0), (("words a", "End"), 1, 0)]:
            self.bad(read_book, lines, line, word)

    def error(self, lines, kind):
        with self.assertRaises(kind) as caught:
            read_book(lines)
        return caught.exception

    def test_what_the_objects_bar(self):
        self.assertEqual(self.error(("words a b c d e f g h i", "end"), BadTongue).word, "words")
        self.assertEqual(self.error(("words b a", "end"), BadTongue).word, "words")
        self.assertEqual(self.error(("words a", "headings b", "end"), BadTongue).word, "headings")
        self.assertEqual(self.error(("words a", "headings a", "quote a", "end"), BadTongue).word, "quote")
        self.assertEqual(self.error(("words a", "turn k b:b", "end"), BadMap).pairs, (("b", "b"),))
        self.assertEqual(self.error(("words a", "turn k b:a a:b", "turn m a:a", "end"), BadMap).pairs,
                         (("b", "a"), ("a", "b")))
        self.assertEqual(self.error(("words a", "turn k", "turn k", "end"), BadBook).word, "turns")
        self.assertEqual(self.error(("words a", *[f"turn {name}" for name in "klmno"], "end"), BadBook).word, "turns")
        self.assertEqual(self.error(("words a", "term t a", "way _", "end"), BadTerm).word, "ways")
        self.assertEqual(self.error(("words a", "term t b", "way", "end"), BadBook).word, "terms")
        self.assertEqual(self.error(("words a", "term t a", "way", "turns k", "end"), BadBook).word, "terms")
        nine = [line for name in "abcdefghi" for line in (f"term {name} a", "way")]
        self.assertEqual(len(read_book(("words a", *nine[:16], "end"))), 8)
        self.assertEqual(self.error(("words a", *nine, "end"), BadBook).word, "terms")

    def test_the_order_of_what_they_bar(self):
        wrong = ["words b a", "turn k b:b", "term t _", "way", "term t a", "way _", "end"]
        self.bad(read_book, wrong + [""], 7, 0)
        self.assertEqual(self.error(wrong, BadTongue).word, "words")
        wrong[0] = "words a b"
        self.assertEqual(self.error(wrong, BadMap).pairs, (("b", "b"),))
        wrong[1] = "turn k b:a"
        self.assertEqual(self.error(wrong, BadTerm).word, "pattern")
        wrong[2] = "term t c"
        self.assertEqual(self.error(wrong, BadTerm).word, "ways")
        wrong[5] = "way"
        self.assertEqual(self.error(wrong, BadBook).word, "terms")
        wrong.insert(1, "turn m")
        self.assertEqual(self.error(wrong, BadBook).word, "turns")

    def test_spoilt(self):
        texts = [write_book(plain.some_book(seed, many=1 + seed % 5)) for seed in range(60)]
        self.spoil(read_book, grammar.BOOK, [tuple(EXAMPLE)] + texts, 20)

    def test_each_word_of_the_example(self):
        for number, line in enumerate(EXAMPLE):
            for place in range(len(line.split(" "))):
                for word in grammar.WORDS:
                    lines = list(EXAMPLE)
                    words = line.split(" ")
                    words[place] = word
                    lines[number] = " ".join(words)
                    self.as_told(read_book, grammar.BOOK, lines)


class Styles(Lines):
    style = Style(((("a", 1), ("b", 0)), (), (("c", 2),)), (0, 1))
    lines = ("room a 1 b 0", "room", "room c 2", "ends 0 1")

    def test_written_and_read_back(self):
        self.assertEqual(write_style(self.style), self.lines)
        self.assertEqual(read_style(self.lines), self.style)
        self.assertEqual(read_style(list(self.lines)), self.style)
        six = Style(((("a", 5),), (), (), (), (), ()), (5,))
        self.assertEqual(read_style(write_style(six)), six)

    def test_bad_lines(self):
        for lines, line, word in [
                ((), 0, 0), (("room",), 1, 0), (("ends",), 0, 1), (("ends 6",), 0, 1), (("ends 00",), 0, 1),
                (("ends -1",), 0, 1), (("ends +1",), 0, 1), (("ends 01",), 0, 1), (("ends a",), 0, 1),
                (("ends 0 ",), 0, 2), (("ends 0", "ends 0"), 1, 0), (("ends 0", "room"), 1, 0), (("room a", "ends 0"), 0, 2),
                (("room a 0 b", "ends 0"), 0, 4), (("room 0 a", "ends 0"), 0, 1), (("room a 6", "ends 0"), 0, 2),
                (("room a 0 ", "ends 0"), 0, 3), (("room a b", "ends 0"), 0, 2), (("room", None, "ends 0"), 1, 0),
                (("room", "", "ends 0"), 1, 0), (("room", "rooms", "ends 0"), 1, 0), (("room ", "ends 0"), 0, 1)]:
            self.bad(read_style, lines, line, word)

    def test_what_the_style_bars(self):
        for lines, word in [(("ends 0",), "rooms"), (("room a 1", "ends 0"), "rooms"), (("room b 0 a 0", "ends 0"), "rooms"),
                            (("room",) * 7 + ("ends 0",), "rooms"), (("room", "ends 1"), "ends"),
                            (("room", "room", "ends 1 0"), "ends"), (("room", "ends 0 0"), "ends"),
                            (("room", "room", "ends 1"), "texts")]:
            with self.assertRaises(BadStyle) as caught:
                read_style(lines)
            self.assertEqual(caught.exception.word, word)

    def test_spoilt(self):
        self.spoil(read_style, grammar.STYLE, [self.lines, ("room", "ends 0"), ("room a 0 b 0 c 0", "ends 0")], 500)


class Works(Lines):
    def test_readings(self):
        reading = (("the", 0), ("cat", 1), ("sees", 2))
        self.assertEqual(write_reading(reading), "read the cat:1 sees:2")
        self.assertEqual(read_reading("read the cat:1 sees:2"), reading)
        self.assertEqual(write_reading(()), "read")
        self.assertEqual(read_reading("read"), ())
        self.assertEqual(write_reading([["a", 2]]), "read a:2")
        many = (("abcdefgh", 2),) * 190
        self.assertEqual(read_reading(write_reading(many)), many)

    def test_bad_readings(self):
        for line, word in [("", 0), ("reads", 0), (" read", 0), ("read ", 1), ("read  a", 1), ("read a:0", 1),
                           ("read a:3", 1), ("read a b:", 2), ("read a:01", 1), ("read a:1:1", 1), ("read :1", 1),
                           ("read *a", 1), ("read _", 1), ("read a ", 2), (None, 0), (5, 0), (("read",), 0)]:
            self.bad(read_reading, line, 0, word)

    def test_works(self):
        chapters = ((("a", 0),), (), (("b", 2), ("a", 1)))
        self.assertEqual(write_work(chapters), ("read a", "read", "read b:2 a:1"))
        self.assertEqual(write_work([[["a", 0]], [], [["b", 2], ["a", 1]]]), ("read a", "read", "read b:2 a:1"))
        self.assertEqual(read_work(["read a", "read", "read b:2 a:1"]), chapters)
        self.assertEqual(read_work(("read",) * 6), ((),) * 6)

    def test_bad_works(self):
        for lines, line, word in [((), 0, 0), (("read",) * 7, 6, 0), (("read",) * 6 + (None,), 6, 0),
                                  (("read", "read a "), 1, 2), (("read", None), 1, 0), (("read", ""), 1, 0),
                                  (("read",) * 5 + ("read _", "read"), 5, 1), (("", "read"), 0, 0)]:
            self.bad(read_work, lines, line, word)

    def test_spoilt(self):
        self.spoil(read_work, grammar.WORK, [("read a", "read", "read b:2 a:1"), ("read a b",) * 6, ("read",)], 500)


if __name__ == "__main__":
    unittest.main()
