import unittest

import brute
import plain
from keptacross.alike import Alike
from keptacross.books import Book
from keptacross.errors import BadBook, Foreign, NoTerm, TooMany
from keptacross.needless import book_without, lean, needless
from keptacross.roads import Road
from keptacross.scopes import exchangeable, same_scopes, scopes_of, with_scope
from keptacross.styles import Style
from keptacross.terms import Term
from keptacross.tongues import Tongue
from test_begun import wide_outlook
from test_outlooks import counter

X, Y = (("x",),), (("y",),)


def swapped(book, rank):
    terms = list(book.terms)
    terms[rank], terms[rank + 1] = terms[rank + 1], terms[rank]
    return Book(book.tongue, terms, turns=book.turns)


def rescoped(book, name, scope):
    terms = [Term(term.name, term.pattern, term.ways, scope=scope if term.name == name else term.scope,
                  first=term.first, turn=term.turn) for term in book.terms]
    return Book(book.tongue, terms, turns=book.turns)


def same_pages(one, other, style, length):
    """Whether two books have the same pages for all short readings."""
    many = max(one.picks, other.picks)
    return all(plain.page(one, reading) == plain.page(other, reading)
               for reading in brute.readings(style, many, length))


def too_wide():
    """A book with more than 1000 pairs of standings with itself but for a term, and a style."""
    ring = counter(1001)
    never = Term("n", ("a", "a"), ((),), scope=("quoted",))
    return Book(ring.tongue, ring.terms + (never,), turns=ring.turns), Style.free(("a",))


class Needless(unittest.TestCase):
    def test_book_without(self):
        book = plain.cats()
        self.assertEqual(book_without(book, "b"),
                         Book(book.tongue, [book["a"], book["c"], book["d"]], turns=book.turns))
        for name in ("e", "", "the"):
            with self.assertRaises(NoTerm) as caught:
                book_without(book, name)
            self.assertEqual(caught.exception.name, name)

    def test_by_hand(self):
        terms = (Term("p", ("a",), X), Term("q", ("a",), X), Term("r", ("b",), (("b",),)), Term("s", ("a", "b"), Y))
        book = Book(Tongue(("a", "b", "c")), terms)
        self.assertEqual(needless(book, Style.free(("a", "b", "c"))), ("p", "q", "r"))
        self.assertEqual(lean(book, Style.free(("a", "b", "c"))), Book(book.tongue, [terms[0], terms[3]]))
        self.assertEqual(needless(book, Style.free(("b", "c"))), ("p", "q", "r", "s"))
        self.assertEqual(lean(book, Style.free(("b", "c"))), Book(book.tongue))

    def test_needless_only_when_another_is_left_out(self):
        terms = (Term("k", ("a",), (("a",),)), Term("y", ("a",), (("z",),)))
        book = Book(Tongue(("a",)), terms)
        self.assertEqual(needless(book, Style.free(("a",))), ("y",))
        self.assertEqual(lean(book, Style.free(("a",))), Book(book.tongue))

    def test_the_last_one_goes_first(self):
        terms = (Term("m", ("a",), X), Term("c", ("a",), X), Term("b", ("a",), X))
        book = Book(Tongue(("a",)), terms)
        self.assertEqual(lean(book, Style.free(("a",))).names, ("m",))

    def test_a_way_less_counts(self):
        book = Book(Tongue(("a", "b")), (Term("p", ("a",), X), Term("q", ("b",), (("b",), ("b",), ("c",)))))
        self.assertEqual(needless(book, Style.free(("a", "b"))), ())
        self.assertEqual(needless(book, Style.free(("a",))), ("q",))

    def test_no_terms(self):
        book = Book(Tongue(("a",)))
        self.assertEqual((needless(book, Style.free(("a",))), lean(book, Style.free(("a",)))), ((), book))
        self.assertEqual(exchangeable(book, Style.free(("a",))), ())

    def test_against_plain_comparisons(self):
        found = 0
        for seed in range(100):
            book = plain.some_book(seed, many=2, terms=4)
            style = brute.some_style(seed, book.tongue.words)
            told = brute.asked(lambda: needless(book, style))
            if told is None:
                continue
            for name in book.names:
                other = book_without(book, name)
                alike = Alike(Road(book), Road(other), style)
                self.assertEqual(name in told, bool(alike))
                self.assertTrue(not alike or same_pages(book, other, style, 3))
            self.assertEqual(told, tuple(name for name in book.names if name in told))
            left = lean(book, style)
            found += len(left) < len(book)
            self.assertTrue(same_pages(book, left, style, 3))
            expected = book
            while True:
                names = [name for name in expected.names
                         if Alike(Road(book), Road(book_without(expected, name)), style)]
                if not names:
                    break
                expected = book_without(expected, names[-1])
            self.assertEqual(left, expected)
        self.assertGreater(found, 20)

    def test_errors(self):
        book, style = too_wide()
        for ask in (needless, lean, exchangeable, lambda book, style: same_scopes(book, style, "n")):
            with self.assertRaises(TooMany) as caught:
                ask(book, style)
            self.assertEqual(caught.exception.word, "pair")
            for foreign in (book, Book(Tongue(("a",)), (Term("n", ("a",), X),)), Book(Tongue(("a",)))):
                if "n" in foreign or ask in (needless, lean, exchangeable):
                    with self.assertRaises(Foreign) as caught:
                        ask(foreign, Style.free(("a", "p", "q")))
                    self.assertEqual(caught.exception.word, "p")

    def test_just_1000_pairs(self):
        ring = counter(1000)
        book = Book(ring.tongue, ring.terms + (Term("n", ("a", "a"), ((),), scope=("quoted",)),), turns=ring.turns)
        self.assertEqual(needless(book, Style.free(("a",))), ("n",))
        self.assertEqual(exchangeable(book, Style.free(("a",))), (("t", "n"),))


class Scopes(unittest.TestCase):
    def test_scopes_of(self):
        tongue = Tongue(("a", "b", "g", "h", "q"), headings=("g", "h"), quote="q")
        self.assertEqual(scopes_of(tongue), (("work",), ("in", "g"), ("in", "h"), ("behind", "a"), ("behind", "b"),
                                             ("behind", "q"), ("plain",), ("quoted",)))
        self.assertEqual(scopes_of(Tongue(("a",))), (("work",), ("behind", "a"), ("plain",), ("quoted",)))
        self.assertEqual(scopes_of(Tongue(("a",), headings=("a",))), (("work",), ("in", "a"), ("plain",), ("quoted",)))

    def test_with_scope(self):
        book = plain.cats()
        changed = with_scope(book, "b", ["behind", "the"])
        self.assertEqual(changed, rescoped(book, "b", ("behind", "the")))
        self.assertEqual(changed["b"].scope, ("behind", "the"))
        for name, scope in [("e", ("work",)), ("e", None), ("", ("in", "the"))]:
            with self.assertRaises(NoTerm):
                with_scope(book, name, scope)
        for scope in [None, "work", (), ("in", "the"), ("behind", "dog"), ("work", "the"), ("nowhere",), ("in",), 5,
                      {}, ("behind", ["the"])]:
            with self.assertRaises(BadBook) as caught:
                with_scope(book, "b", scope)
            self.assertEqual(caught.exception.word, "terms")

    def test_same_scopes_by_hand(self):
        tongue = Tongue(("a", "h", "q"), headings=("h",), quote="q")
        book = Book(tongue, (Term("t", ("a",), X),))
        self.assertEqual(same_scopes(book, Style.free(("a", "h", "q")), "t"), (("work",),))
        self.assertEqual(same_scopes(book, Style.free(("a", "h")), "t"), (("work",), ("plain",)))
        headed = Style(((("h", 1),), (("a", 1), ("h", 1))), (1,))
        self.assertEqual(same_scopes(book, headed, "t"), (("work",), ("in", "h"), ("plain",)))
        quoted = Style(((("q", 1),), (("a", 1),)), (1,))
        self.assertEqual(same_scopes(book, quoted, "t"), (("work",), ("behind", "q"), ("quoted",)))
        self.assertEqual(same_scopes(book, Style.free(("q",)), "t"), scopes_of(tongue))

    def test_same_scopes_against_plain_comparisons(self):
        found = 0
        for seed in range(60):
            book = plain.some_book(seed, many=3, terms=3)
            style = brute.some_style(seed, book.tongue.words)
            for name in book.names:
                told = brute.asked(lambda: same_scopes(book, style, name))
                if told is None:
                    continue
                self.assertIn(book[name].scope, told)
                for scope in scopes_of(book.tongue):
                    other = rescoped(book, name, scope)
                    self.assertEqual(scope in told, bool(Alike(Road(book), Road(other), style)))
                    self.assertTrue(scope not in told or same_pages(book, other, style, 2))
                self.assertEqual(told, tuple(scope for scope in scopes_of(book.tongue) if scope in told))
                found += len(told) > 1
        self.assertGreater(found, 30)

    def test_no_term_goes_ahead_of_foreign(self):
        book, _ = too_wide()
        with self.assertRaises(NoTerm) as caught:
            same_scopes(book, Style.free(("a", "p")), "z")
        self.assertEqual(caught.exception.name, "z")


class Exchanges(unittest.TestCase):
    def test_by_hand(self):
        terms = (Term("p", ("a",), X), Term("q", ("a",), Y), Term("r", ("a", "b"), X), Term("s", ("b",), Y),
                 Term("u", ("b",), Y))
        book = Book(Tongue(("a", "b")), terms)
        self.assertEqual(exchangeable(book, Style.free(("a", "b"))), (("q", "r"), ("r", "s"), ("s", "u")))
        self.assertEqual(exchangeable(book, Style.free(("b",))), (("p", "q"), ("q", "r"), ("r", "s"), ("s", "u")))

    def test_against_plain_comparisons(self):
        apart = 0
        for seed in range(120):
            book = plain.some_book(seed, many=2, terms=5)
            style = brute.some_style(seed, book.tongue.words)
            told = brute.asked(lambda: exchangeable(book, style))
            if told is None:
                continue
            pairs = []
            for rank in range(len(book) - 1):
                other = swapped(book, rank)
                if Alike(Road(book), Road(other), style):
                    pairs.append((book.names[rank], book.names[rank + 1]))
                    self.assertTrue(same_pages(book, other, style, 3))
                else:
                    apart += 1
            self.assertEqual(told, tuple(pairs))
        self.assertGreater(apart, 10)


class Wide(unittest.TestCase):
    def test_a_book_with_many_states(self):
        book = wide_outlook(turning=False)[0].road.books[0]
        self.assertEqual(needless(book, Style.free(book.tongue.words)), book.names)
        self.assertEqual(len(lean(book, Style.free(book.tongue.words))), 0)


if __name__ == "__main__":
    unittest.main()
