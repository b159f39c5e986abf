import random
import unittest

import plain
from keptacross.books import Book
from keptacross.carrying import plain_reading
from keptacross.errors import BadReading, BadText, NoPlace
from keptacross.pieces import holding, pieces
from keptacross.terms import Term
from keptacross.tongues import Tongue


def held_plainly(book, text, place):
    """The names of the terms that hold and fit at a place, as [5] and [16] tell."""
    chapter, quoted, met = "", 0, set()
    for word in text[:place]:
        if word in book.tongue.headings:
            chapter, quoted, met = word, 0, set()
        else:
            met.add(word)
            quoted ^= word == book.tongue.quote
    found = []
    for rank, term in enumerate(book.terms):
        kind, word = term.scope[0], term.scope[-1]
        holds = {"work": True, "in": chapter == word, "behind": word in met, "plain": not quoted, "quoted": quoted}[kind]
        rest = text[place:place + len(term)]
        if holds and len(rest) == len(term) and all(item in ("_", other) for item, other in zip(term.pattern, rest)):
            found.append((-len(term), rank, term.name))
    return tuple(name for _, _, name in sorted(found))


class Pieces(unittest.TestCase):
    def test_the_example(self):
        reading = plain_reading("the cat sees big cat".split())
        self.assertEqual(pieces(plain.cats(), reading), (
            (0, 1, "a", ("les",)), (1, 1, "b", ("chats",)), (2, 3, "d", ("voit", "big", "chat"))))

    def test_kept_words(self):
        self.assertEqual(pieces(plain.cats(), (("sees", 2), ("big", 0), ("the", 0))),
                         ((0, 1, None, ("sees",)), (1, 1, None, ("big",)), (2, 1, "a", ("les",))))

    def test_no_words(self):
        self.assertEqual(pieces(plain.cats(), ()), ())

    def test_a_piece_that_says_nothing(self):
        book = Book(Tongue(("a",)), (Term("t", ("a",), ((), ("*n",))),))
        self.assertEqual(pieces(book, [["a", 0], ["a", 1]]), ((0, 1, "t", ()), (1, 1, "t", ("*n",))))

    def test_against_the_plain_telling(self):
        for seed in range(150):
            book = plain.some_book(seed)
            reading = plain.some_reading(seed, book, seed % 13)
            self.assertEqual(pieces(book, reading), tuple(plain.pieces(book, reading)))

    def test_bad_readings(self):
        for reading, number in [(None, -1), ("cat", -1), ((("cat", 0),) * 61, -1), ((("cat", 3),), 0),
                                ((("cat", 0), ("dog", 0)), 1), ((("cat", 0), ("cat", True)), 1)]:
            with self.assertRaises(BadReading) as caught:
                pieces(plain.cats(), reading)
            self.assertEqual(caught.exception.number, number)
        self.assertEqual(len(pieces(plain.cats(), (("cat", 0),) * 60)), 60)


class Holding(unittest.TestCase):
    def test_within_a_piece(self):
        text = "the cat sees big cat".split()
        self.assertEqual([holding(plain.cats(), text, place) for place in range(5)],
                         [("a",), ("b",), ("d",), ("c",), ("b",)])

    def test_longer_ones_first_then_by_rank(self):
        ways = (("x",),)
        terms = (Term("s", ("a",), ways), Term("m", ("a", "a"), ways), Term("t", ("a",), ways),
                 Term("g", ("a", "_", "a"), (("_",),)), Term("l", ("a", "a", "a"), ways), Term("k", ("a", "a"), ways))
        book = Book(Tongue(("a", "b")), terms)
        self.assertEqual(holding(book, ("a", "a", "a"), 0), ("g", "l", "m", "k", "s", "t"))
        self.assertEqual(holding(book, ("a", "a", "a"), 1), ("m", "k", "s", "t"))
        self.assertEqual(holding(book, ("a", "b", "a"), 0), ("g", "s", "t"))
        self.assertEqual(holding(book, ("a", "b", "a"), 1), ())

    def test_what_is_passed_ahead_counts_whatever_the_cuts_are(self):
        ways = (("x",),)
        terms = (Term("p", ("h", "q", "a"), ways), Term("i", ("q",), ways, scope=("in", "h")),
                 Term("n", ("a",), ways, scope=("quoted",)), Term("b", ("a",), ways, scope=("behind", "q")),
                 Term("l", ("a",), ways, scope=("plain",)))
        book = Book(Tongue(("a", "h", "q"), headings=("h",), quote="q"), terms)
        text = ("q", "a", "h", "q", "a", "q", "a")
        self.assertEqual([holding(book, text, place) for place in range(7)],
                         [(), ("n", "b"), ("p",), ("i",), ("n", "b"), ("i",), ("b", "l")])

    def test_against_a_plain_telling(self):
        for seed in range(200):
            book = plain.some_book(seed)
            chance = random.Random(seed)
            text = tuple(chance.choice(book.tongue.words) for _ in range(8))
            for place in range(8):
                self.assertEqual(holding(book, text, place), held_plainly(book, text, place))
                self.assertEqual(holding(book, list(text), place), held_plainly(book, text, place))

    def test_the_first_one_cuts_the_piece(self):
        for seed in range(60):
            book = plain.some_book(seed)
            reading = plain.some_reading(seed, book, 9)
            text = [word for word, _ in reading]
            for place, _, name, _ in pieces(book, reading):
                self.assertEqual((holding(book, text, place) or (None,))[0], name)

    def test_bad_texts(self):
        for text, number in [(None, -1), ("cat", -1), (("cat",) * 61, -1), (("dog",), 0), (("cat", "*cat"), 1),
                             (("cat", None), 1), (("cat", ["cat"]), 1), ((("cat", 0),), 0), ({"cat": 1}, -1)]:
            for place in (0, 99, None):
                with self.assertRaises(BadText) as caught:
                    holding(plain.cats(), text, place)
                self.assertEqual(caught.exception.number, number)

    def test_no_place(self):
        for place in (-1, 2, True, None, "0", (0,), 10 ** 39):
            with self.assertRaises(NoPlace) as caught:
                holding(plain.cats(), ("cat", "the"), place)
            self.assertIs(caught.exception.place, place)
        with self.assertRaises(NoPlace):
            holding(plain.cats(), (), 0)
        self.assertEqual(holding(plain.cats(), ("cat",) * 60, 59), ("b",))


if __name__ == "__main__":
    unittest.main()
