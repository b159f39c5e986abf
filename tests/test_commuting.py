import itertools
import random
import unittest

import brute
import plain
from keptacross.books import Book
from keptacross.commuting import Commuting, all_commute
from keptacross.errors import BadChange, Foreign, TooMany
from keptacross.shelves import Shelf
from keptacross.styles import Style
from keptacross.terms import Term
from keptacross.tongues import Tongue
from test_changes import CHANGES, NO_CHANGES, changed_plainly, some_change
from test_keeping_able import letters
from test_outlooks import counter


def done_plainly(book, *changes):
    """The book behind some changes, by the plain telling."""
    for change in changes:
        book = changed_plainly(book, change)[0]
    return book


def least_unlike(one, other, style, length):
    """The least reading with so many words at most whose pages are unlike with both books, None if there is none."""
    for reading in brute.readings(style, max(one.picks, other.picks), length):
        if plain.page(one, reading) != plain.page(other, reading):
            return reading
    return None


def near_change(chance, book):
    """A change made by chance that is seldom idle: of a term that is there, or of words that are said."""
    for _ in range(20):
        change = some_change(chance, book)
        if change[0] == "say":
            said = [item for term in book.terms for way in term.ways for item in way if item.isalpha()]
            change = ("say", chance.choice(said + ["x"]), chance.choice(said + ["x", "z"]))
        if changed_plainly(book, change)[1] == "done":
            return change
    return change


class Two(unittest.TestCase):
    def setUp(self):
        self.book = letters((("x",),), (("y",), ("z",)))
        self.style = Style.free(("a", "b"))

    def test_by_hand(self):
        book, style = self.book, self.style
        names = book.names
        for first, second, reading in [
                (("say", "x", "y"), ("say", "y", "z"), (("a", 0),)), (("say", "x", "q"), ("say", "y", "r"), None),
                (("ways", names[1], (("x",),)), ("say", "x", "q"), (("b", 0),)), (("drop", names[0]), ("rise", names[0]), None),
                (("drop", names[0]), ("say", "x", "q"), None), (("say", "q", "r"), ("say", "q", "r"), None),
                (("ways", names[1], (("y",), ("q",))), ("ways", names[1], (("y",), ("r",))), (("b", 1),)),
                (("drop", names[0]), ("add", Term(names[0], ("a",), (("q",),))), (("a", 0),))]:
            both = Commuting(book, first, brute.as_lists(second), style)
            self.assertEqual((bool(both), both.reading), (reading is None, reading))
            self.assertEqual(Commuting(book, second, first, style).reading, reading)

    def test_a_style_in_which_they_do(self):
        changes = ("say", "x", "y"), ("say", "y", "z")
        self.assertFalse(Commuting(self.book, *changes, self.style))
        self.assertEqual(Commuting(self.book, *changes, Style.free(("b",))).reading, None)

    def test_rank(self):
        book = Book(Tongue(("a",)), [Term(name, ("a",), ((name,),)) for name in ("p", "q", "r")])
        self.assertEqual(Commuting(book, ("rise", "q"), ("rise", "r"), Style.free(("a",))).reading, (("a", 0),))
        self.assertTrue(Commuting(book, ("rise", "q"), ("drop", "r"), Style.free(("a",))))

    def test_against_a_plain_comparison(self):
        alike = unlike = 0
        for seed in range(300):
            chance = random.Random(seed)
            book = plain.some_book(seed, many=2, terms=3)
            style = brute.some_style(seed, book.tongue.words)
            first, second = near_change(chance, book), near_change(chance, book)
            both = brute.asked(lambda: Commuting(book, first, second, style))
            if both is None:
                continue
            one, other = done_plainly(book, first, second), done_plainly(book, second, first)
            found = least_unlike(one, other, style, 3)
            if found is not None:
                self.assertEqual(both.reading, found)
            elif both.reading is not None:
                self.assertGreater(len(both.reading), 3)
                self.assertNotEqual(plain.page(one, both.reading), plain.page(other, both.reading))
            self.assertEqual(bool(both), both.reading is None)
            alike += bool(both)
            unlike += not both
        self.assertGreater(alike, 60)
        self.assertGreater(unlike, 15)

    def test_errors(self):
        style = Style.free(("a", "p", "q"))
        for change in NO_CHANGES:
            for changes in [(change, None), (("drop", "x"), change)]:
                with self.assertRaises(BadChange) as caught:
                    Commuting(counter(1001), *changes, style)
                self.assertIs(caught.exception.change, change)
        with self.assertRaises(Foreign) as caught:
            Commuting(counter(1001), CHANGES[2], CHANGES[3], style)
        self.assertEqual(caught.exception.word, "p")

    def test_just_1000_pairs_and_more(self):
        style = Style.free(("a",))
        idle = ("drop", "x"), ("rise", "t")
        self.assertTrue(Commuting(counter(1000), *idle, style))
        for ask in (lambda: Commuting(counter(1001), *idle, style),
                    lambda: all_commute(Shelf(counter(1001), idle), style)):
            with self.assertRaises(TooMany) as caught:
                ask()
            self.assertEqual(caught.exception.word, "pair")
        self.assertIsNone(all_commute(Shelf(counter(1000), idle), style))


class All(unittest.TestCase):
    def test_by_hand(self):
        book = letters((("x",),), (("y",),))
        style = Style.free(("a", "b"))
        shelf = Shelf(book, (("say", "x", "q"), ("say", "y", "r"), ("drop", book.names[0])))
        self.assertIsNone(all_commute(shelf, style))
        # On the first book itself the first two commute, and all others; behind the third one they do not.
        book = Book(Tongue(("a",)), (Term("p", ("a",), (("x",),)), Term("q", ("a",), (("y",),))))
        shelf = Shelf(book, (("say", "y", "z"), ("say", "z", "w"), ("drop", "p")))
        self.assertEqual(all_commute(shelf, Style.free(("a",))), (2, (1, 2), (("a", 0),)))
        self.assertEqual(shelf.way(2), (3,))

    def test_one_change_commutes(self):
        self.assertIsNone(all_commute(Shelf(letters((("x",),)), (("say", "x", "y"),)), Style.free(("a",))))

    def test_foreign(self):
        with self.assertRaises(Foreign) as caught:
            all_commute(Shelf(counter(1001), (("drop", "x"),)), Style.free(("a", "p", "q")))
        self.assertEqual(caught.exception.word, "p")

    def test_against_single_comparisons(self):
        none = told = 0
        for seed in range(60):
            chance = random.Random(seed)
            book = plain.some_book(seed, many=2, terms=3)
            style = brute.some_style(seed, book.tongue.words)
            menu = []
            while len(menu) < 2 + seed % 3:
                change = near_change(chance, book)
                if change not in menu:
                    menu.append(change)
            found = brute.asked(lambda: (all_commute(Shelf(book, menu), style),))
            if found is None or len(Shelf(book, menu)) > 12:
                continue
            first = None
            for n, other in enumerate(Shelf(book, menu)):
                for k, m in itertools.combinations(range(len(menu)), 2):
                    both = Commuting(other, menu[k], menu[m], style)
                    if first is None and not both:
                        first = (n, (k + 1, m + 1), both.reading)
            self.assertEqual(found[0], first)
            none += first is None
            told += first is not None
        self.assertGreater(none, 6)
        self.assertGreater(told, 6)


if __name__ == "__main__":
    unittest.main()
