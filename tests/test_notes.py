import itertools
import unittest

import brute
import plain
from keptacross.books import Book
from keptacross.errors import BadLot, BadWant, Foreign, TooMany
from keptacross.known import Known
from keptacross.notes import Notes, noted
from keptacross.roads import Road
from keptacross.styles import Style
from keptacross.terms import Term
from keptacross.tongues import Tongue
from keptacross.wants import Words
from keptacross.wordmaps import WordMap
from test_keeping_able import letters
from test_outlooks import counter
from test_wants_known import wanted_plainly, words_of


def noted_plainly(book, lot):
    terms = []
    for term in book.terms:
        note = ("*" + term.name,) if term.name in lot else ()
        terms.append(Term(term.name, term.pattern, tuple(way + note for way in term.ways), scope=term.scope,
                          first=None if term.first is None else term.first + note, turn=term.turn))
    return Book(book.tongue, terms, turns=book.turns)


def all_lots(names):
    return [lot for many in range(len(names) + 1) for lot in itertools.combinations(sorted(names), many)]


def three():
    """A book of which the page tells nothing: the words a, b and c are all rendered by x."""
    return letters((("x",),), (("x",),), (("x",),))


class Noted(unittest.TestCase):
    def test_by_hand(self):
        book = Book(Tongue(("a", "b")), (Term("p", ("a", "_", "a"), (("_", "x"), ("_",)), first=("*f", "_")),
                                         Term("q", ("b",), ((), ("x", "*q")))))
        self.assertEqual(noted(book, ("p", "q")), Book(book.tongue, (
            Term("p", ("a", "_", "a"), (("_", "x", "*p"), ("_", "*p")), first=("*f", "_", "*p")),
            Term("q", ("b",), (("*q",), ("x", "*q", "*q"))))))
        self.assertEqual(noted(book, []), book)
        self.assertEqual(noted(book, ["q"])["p"], book["p"])

    def test_against_the_plain_telling(self):
        for seed in range(60):
            book = plain.some_book(seed, terms=4)
            for lot in all_lots(book.names):
                self.assertEqual(noted(book, lot), noted_plainly(book, lot))

    def test_six_items(self):
        book = Book(Tongue(("a", "b", "c")), (Term("p", ("a",), (("x",), ("x",) * 6)), Term("q", ("b",), (("x",) * 5,)),
                                              Term("r", ("c",), ((),), first=("x",) * 6)))
        self.assertEqual(noted(book, ("q",))["q"].ways, (("x",) * 5 + ("*q",),))
        for lot in (("p",), ("r",), ("p", "q"), ("p", "q", "r")):
            with self.assertRaises(TooMany) as caught:
                noted(book, lot)
            self.assertEqual(caught.exception.word, "item")

    def test_bad_lots(self):
        book = letters((("x",) * 6,), (("x",),))
        for lot in [None, "ta", ("tb", "ta"), ("ta", "ta"), ("tz",), ("ta", "tz"), (1,), {"ta": 1}, ("a",), (None, None),
                    ("ta", True)]:
            with self.assertRaises(BadLot) as caught:
                noted(book, lot)
            self.assertIs(caught.exception.lot, lot)


class Cures(unittest.TestCase):
    def test_by_hand(self):
        style, want = Style.free(("a", "b", "c")), Words(("a", "b", "c"))
        notes = Notes(three(), want, style)
        self.assertEqual(list(notes), [("ta", "tb"), ("ta", "tc"), ("tb", "tc")])
        self.assertEqual((len(notes), bool(notes)), (3, True))
        self.assertEqual([lot for lot, _ in notes.table], all_lots(("ta", "tb", "tc")))
        self.assertEqual([pair is None for _, pair in notes.table], [False] * 4 + [True] * 4)
        for lot, pair in notes.table:
            self.assertEqual(lot in notes, pair is None)
            self.assertEqual(list(lot) in notes, pair is None)
        for thing in (None, "ta", ("tb", "ta"), ("tz",), 5, {}, ("ta", True), [["ta"]]):
            self.assertIs(thing in notes, False)

    def test_one_is_enough(self):
        notes = Notes(three(), Words(("b",)), Style.free(("a", "b", "c")))
        self.assertEqual(list(notes), [("tb",), ("ta", "tc")])
        self.assertEqual(list(Notes(three(), Words(()), Style.free(("a", "b")))), [()])

    def test_nothing_cures(self):
        # Behind t the kept words a and b are both turned to c, or stay b: no note of a term tells which came.
        turns = (("k", WordMap((("a", "b"),))),)
        book = Book(Tongue(("a", "b", "t")), (Term("t", ("t",), ((), ("*n",)), turn="k"),), turns=turns)
        style = Style(((("t", 1),), (("a", 2), ("b", 2)), ()), (2,))
        notes = Notes(book, Words(("a", "b")), style)
        self.assertEqual((list(notes), len(notes), bool(notes)), ([], 0, False))
        self.assertEqual([lot for lot, _ in notes.table], [(), ("t",)])
        for lot, pair in notes.table:
            self.assertEqual(sorted(words_of(reading) for reading in pair), [("t", "a"), ("t", "b")])
            self.assertIs(lot in notes, False)

    def test_a_way_that_has_the_note(self):
        book = Book(Tongue(("a", "b", "c")), (Term("p", ("a", "b"), (("x",),)), Term("q", ("a", "c"), (("x", "*p"),))))
        style = Style(((("a", 1),), (("b", 2), ("c", 2)), ()), (2,))
        self.assertEqual([(lot, pair is None) for lot, pair in Notes(book, Words(("b", "c")), style).table],
                         [((), True), (("p",), False), (("q",), True), (("p", "q"), True)])

    def test_no_terms(self):
        notes = Notes(Book(Tongue(("a",))), Words(("a",)), Style.free(("a",)))
        self.assertEqual((list(notes), notes.table), ([()], (((), None),)))

    def test_notes_in_ways(self):
        # The notes of the ways are those of the terms: noting one of them hides what was told.
        book = Book(Tongue(("a", "b")), (Term("p", ("a",), (("*q",),)), Term("q", ("b",), ((),))))
        notes = Notes(book, Words(("a",)), Style(((("a", 1), ("b", 1)), ()), (1,)))
        self.assertEqual([(lot, pair is None) for lot, pair in notes.table],
                         [((), True), (("p",), True), (("q",), False), (("p", "q"), True)])
        self.assertEqual(list(notes), [()])

    def test_against_known(self):
        several = 0
        for seed in range(120):
            book = plain.some_book(seed, many=2, terms=3)
            style = brute.some_style(seed, book.tongue.words)
            want = Words(book.tongue.words[:1 + seed % 2])
            notes = brute.asked(lambda: Notes(book, want, style))
            if notes is None:
                continue
            cures = []
            for lot, pair in notes.table:
                other = noted_plainly(book, lot)
                self.assertEqual(pair is None, bool(Known(Road(other), want, style)))
                if pair is None:
                    cures.append(lot)
                    continue
                self.assertEqual(plain.page(other, pair[0]), plain.page(other, pair[1]))
                self.assertNotEqual(wanted_plainly(want, pair[0]), wanted_plainly(want, pair[1]))
                self.assertTrue(style.reads(words_of(pair[0])) and style.reads(words_of(pair[1])))
            least = [lot for lot in cures if not any(set(part) < set(lot) for part in cures)]
            self.assertEqual(list(notes), sorted(least, key=lambda lot: (len(lot), lot)))
            self.assertEqual([lot for lot, _ in notes.table], all_lots(book.names))
            self.assertEqual(bool(notes), bool(least))
            several += len(least) > 0 and least != [()]
        self.assertGreater(several, 10)

    def test_errors(self):
        words = tuple("abcde")
        many = Book(Tongue(words), [Term("t" + word, (word,), (("x",) * 6,)) for word in words])
        for want in (None, (), many):
            with self.assertRaises(BadWant) as caught:
                Notes(many, want, Style.free(("p",)))
            self.assertIs(caught.exception.want, want)
        for want, style, word in [(Words(()), Style.free(("a", "p", "q")), "p"),
                                  (Road(Book(Tongue(("a",)))), Style.free(("a", "b", "c")), "b")]:
            with self.assertRaises(Foreign) as caught:
                Notes(many, want, style)
            self.assertEqual(caught.exception.word, word)
        four = Book(many.tongue, many.terms[:4])
        for book, word in [(many, "term"), (four, "item"), (counter(301), "standing"), (counter(50), "pair")]:
            with self.assertRaises(TooMany) as caught:
                Notes(book, Words(()), Style.free(("a",)))
            self.assertEqual(caught.exception.word, word)

    def test_four_terms_are_not_too_many(self):
        book = letters((("x",),), (("x",),), (("x",),), (("x",),))
        notes = Notes(book, Words(("a", "b", "c", "d")), Style.free(("a", "b", "c", "d")))
        self.assertEqual(len(notes.table), 16)
        self.assertEqual([len(lot) for lot in notes], [3] * 4)


if __name__ == "__main__":
    unittest.main()
