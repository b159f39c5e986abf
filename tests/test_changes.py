import random
import unittest

import brute
import plain
from keptacross.books import Book
from keptacross.changes import changed, changed_by, is_change
from keptacross.errors import BadChange, BadMenu, NoBook, BadRow, TooMany
from keptacross.logtext import read_log, write_log
from keptacross.shelves import Shelf
from keptacross.terms import Term
from keptacross.tongues import Tongue
from keptacross.wordmaps import WordMap

TONGUE = Tongue(("big", "cat", "sea", "the"), headings=("sea",), quote="big")
TURNS = (("many", WordMap((("chat", "chats"),))),)
ONE = Term("one", ("the",), (("le",), ("la", "*n")), first=("voici", "le"), turn="many")
TWO = Term("two", ("the", "_", "cat"), (("le", "_"),), scope=("in", "sea"))
SIX = Term("six", ("cat",), ((),), scope=("behind", "the"))
BOOK = Book(TONGUE, (ONE, TWO, SIX), turns=TURNS)
NEW = Term("new", ("big", "cat"), (("lion",),))
NO_CHANGES = (None, "", "drop", 5, True, (), [], {}, ("drop",), ("drop", 5), ("drop", ""), ("drop", "one", "two"), ("fly", "one"),
              ("add",), ("add", "one"), ("add", NEW, NEW), ("add", None), ("rise",), ("rise", "One"), ("rise", None),
              ("ways", "one"), ("ways", "one", ()), ("ways", "one", (("le",),) * 4), ("ways", 5, (("le",),)),
              ("ways", "one", "le"), ("ways", "one", {("le",): 1}), ("ways", "one", ("le",)), ("ways", "one", (("le",) * 7,)), ("ways", "one", ((5,),)),
              ("ways", "one", (("",),)), ("ways", "one", (None,)), ("ways", "one", (("le",),), ()), ("first", "one"),
              ("first", "one", "le"), ("first", "one", ("le",) * 7), ("first", "one", (None,)), ("first", 1, None),
              ("first", "one", None, None), ("first", "one", False), ("scope", "one"), ("scope", "one", ()),
              ("scope", "one", "work"), ("scope", "one", ("works",)), ("scope", "one", ("in",)),
              ("scope", "one", ("in", "Sea")), ("scope", "one", ("plain", "sea")), ("scope", "", ("work",)),
              ("say", "le"), ("say", "le", "*n"), ("say", "le", ""), ("say", "_", "le"), ("say", "le", "la", "un"),
              (["drop"], "one"), (True, "one"), (("drop", "one"),), ("say", "le", None))
CHANGES = (("add", NEW), ("add", ONE), ("drop", "one"), ("drop", "none"), ("rise", "six"), ("ways", "one", (("le", "_"), ())),
           ("ways", "two", ((),)), ("first", "one", None), ("first", "one", ()), ("first", "two", ("_", "_", "*n")),
           ("scope", "one", ("in", "nosea")), ("scope", "one", ("plain",)), ("say", "le", "la"), ("say", "le", "le"))


def with_terms(*terms):
    return Book(TONGUE, terms, turns=TURNS)


def some_change(chance, book):
    """A change made by chance, of any kind."""
    words = list(book.tongue.words)
    name = chance.choice(list(book.names) + ["tz"])
    gap = chance.random() < 0.4
    kind = chance.choice(["add", "drop", "rise", "ways", "first", "scope", "say"])
    if kind == "add":
        turns = book.turns if chance.random() < 0.8 else (("q", None),)
        return kind, plain.some_term(chance, chance.choice([name, "tn", "tm"]), book.tongue, turns)
    if kind == "ways":
        return kind, name, tuple(plain.some_way(chance, gap, words) for _ in range(chance.randint(1, 3)))
    if kind == "first":
        return kind, name, chance.choice([None, plain.some_way(chance, gap, words)])
    if kind == "scope":
        return kind, name, chance.choice([("work",), ("plain",), ("quoted",), ("in", chance.choice(words)),
                                          ("behind", chance.choice(words + ["zz"]))])
    if kind == "say":
        return kind, chance.choice(words + ["x", "y"]), chance.choice(words + ["x", "z"])
    return kind, name


def parts(term):
    return [term.name, term.pattern, term.ways, term.scope, term.first, term.turn]


def remade(told):
    name, pattern, ways, scope, first, turn = told
    return Term(name, pattern, ways, scope=scope, first=first, turn=turn)


def changed_plainly(book, change):
    """What [42] tells, done to lists of what terms are made of; the word that is due is found from all words."""
    terms = [parts(term) for term in book.terms]
    names = [told[0] for told in terms]
    words = set(book.tongue.words)
    headings = set(book.tongue.headings)
    kind = change[0]
    scopes = {("work",), ("plain",), ("quoted",)} | {("in", word) for word in headings}
    scopes |= {("behind", word) for word in words - headings}
    due = []
    if kind == "add":
        told = parts(change[1])
        due = [("twice", told[0] in names), ("many", len(terms) == 8),
               ("unfit", not set(told[1]) - {"_"} <= words or told[3] not in scopes
                or told[5] not in [None] + [name for name, _ in book.turns])]
        terms.append(told)
    elif kind == "say":
        said = [way for told in terms for way in list(told[2]) + ([told[4]] if told[4] is not None else [])]
        due = [("nothing", not any(change[1] in way for way in said)), ("same", change[1] == change[2])]

        def swap(way):
            return tuple(change[2] if item == change[1] else item for item in way)

        for told in terms:
            told[2] = tuple(swap(way) for way in told[2])
            told[4] = None if told[4] is None else swap(told[4])
    elif change[1] not in names:
        due = [("nothing", True)]
    else:
        place = names.index(change[1])
        told = terms[place]
        if kind == "drop":
            terms.pop(place)
        elif kind == "rise":
            due = [("same", place == 0)]
            terms.insert(0, terms.pop(place))
        else:
            at = {"ways": 2, "first": 4, "scope": 3}[kind]
            ways = {"ways": change[2], "first": (change[2],), "scope": ()}[kind]
            wrong = any(way is not None and way.count("_") != ("_" in told[1]) for way in ways)
            due = [("gap", wrong), ("unfit", kind == "scope" and change[2] not in scopes), ("same", told[at] == change[2])]
            told[at] = change[2]
    for word, holds in due:
        if holds:
            return book, word
    return Book(book.tongue, [remade(told) for told in terms], turns=book.turns), "done"


class Changes(unittest.TestCase):
    def check(self, change, word, *terms):
        for told in (change, brute.as_lists(change)):
            book, why = changed(BOOK, told)
            self.assertEqual(why, word)
            self.assertEqual(book, with_terms(*terms) if terms else BOOK)

    def test_add(self):
        self.check(("add", NEW), "done", ONE, TWO, SIX, NEW)
        self.check(("add", Term("one", ("dog",), ((),))), "twice")
        self.check(("add", Term("new", ("the", "dog"), ((),))), "unfit")
        self.check(("add", Term("new", ("the",), ((),), turn="few")), "unfit")
        for scope in [("in", "the"), ("in", "dog"), ("behind", "sea"), ("behind", "dog")]:
            self.check(("add", Term("new", ("the",), ((),), scope=scope)), "unfit")
        eight = with_terms(*[Term("t" + word, ("the",), ((),)) for word in "abcdefgh"])
        self.assertEqual(changed(eight, ("add", Term("tc", ("dog",), ((),)))), (eight, "twice"))
        self.assertEqual(changed(eight, ("add", Term("ti", ("dog",), ((),)))), (eight, "many"))
        seven = with_terms(*eight.terms[:7])
        self.assertEqual(changed(seven, ("add", Term("ti", ("dog",), ((),)))), (seven, "unfit"))
        self.assertEqual(changed(seven, ("add", eight.terms[7])), (eight, "done"))

    def test_drop_and_rise(self):
        self.check(("drop", "two"), "done", ONE, SIX)
        self.check(("drop", "none"), "nothing")
        self.check(("rise", "six"), "done", SIX, ONE, TWO)
        self.check(("rise", "one"), "same")
        self.check(("rise", "none"), "nothing")

    def test_ways(self):
        new = Term("two", TWO.pattern, (("_", "*n"), ("x", "_")), scope=TWO.scope)
        self.check(("ways", "two", new.ways), "done", ONE, new, SIX)
        new = Term("one", ("the",), ((),), first=ONE.first, turn="many")
        self.check(("ways", "one", ((),)), "done", new, TWO, SIX)
        for ways in [(("le",),), (("_", "_"),), (("_",), ())]:
            self.check(("ways", "two", ways), "gap")
        self.check(("ways", "one", (("_",),)), "gap")
        self.check(("ways", "one", ONE.ways), "same")
        self.check(("ways", "none", (("_",),)), "nothing")

    def test_first(self):
        new = Term("one", ("the",), ONE.ways, turn="many")
        self.check(("first", "one", None), "done", new, TWO, SIX)
        new = Term("two", TWO.pattern, TWO.ways, scope=TWO.scope, first=("_",))
        self.check(("first", "two", ("_",)), "done", ONE, new, SIX)
        new = Term("six", SIX.pattern, SIX.ways, scope=SIX.scope, first=())
        self.check(("first", "six", ()), "done", ONE, TWO, new)
        self.check(("first", "two", ()), "gap")
        self.check(("first", "one", ("_",)), "gap")
        self.check(("first", "one", ONE.first), "same")
        self.check(("first", "two", None), "same")
        self.check(("first", "none", None), "nothing")

    def test_scope(self):
        for scope in [("quoted",), ("in", "sea"), ("behind", "big")]:
            new = Term("one", ("the",), ONE.ways, scope=scope, first=ONE.first, turn="many")
            self.check(("scope", "one", scope), "done", new, TWO, SIX)
        for scope in [("in", "the"), ("in", "dog"), ("behind", "sea"), ("behind", "dog")]:
            self.check(("scope", "one", scope), "unfit")
        self.check(("scope", "two", ("in", "sea")), "same")
        self.check(("scope", "one", ("work",)), "same")
        self.check(("scope", "none", ("in", "dog")), "nothing")

    def test_say(self):
        one = Term("one", ("the",), (("un",), ("la", "*n")), first=("voici", "un"), turn="many")
        self.check(("say", "le", "un"), "done", one, Term("two", TWO.pattern, (("un", "_"),), scope=TWO.scope), SIX)
        self.check(("say", "voici", "le"), "done", Term("one", ("the",), ONE.ways, first=("le", "le"), turn="many"), TWO, SIX)
        self.check(("say", "the", "un"), "nothing")
        self.check(("say", "n", "un"), "nothing")
        self.check(("say", "the", "the"), "nothing")
        self.check(("say", "la", "la"), "same")

    def test_forms(self):
        for change in CHANGES:
            self.assertIs(is_change(change), True, change)
            self.assertIs(is_change(brute.as_lists(change)), True, change)
        for change in NO_CHANGES:
            self.assertIs(is_change(change), False, change)
            with self.assertRaises(BadChange) as caught:
                changed(BOOK, change)
            self.assertIs(caught.exception.change, change)

    def test_against_a_plain_telling(self):
        told = {}
        for seed in range(400):
            chance = random.Random(seed)
            book = plain.some_book(seed, terms=chance.choice([2, 4, 8]))
            for _ in range(12):
                change = some_change(chance, book)
                expected = changed_plainly(book, change)
                self.assertEqual(changed(book, change), expected, change)
                self.assertEqual(read_log(write_log((change,))), (change,))
                told[change[0], expected[1]] = told.get((change[0], expected[1]), 0) + 1
                book = expected[0]
        # Each kind of change, done and idle for each reason.
        self.assertEqual(len(told), 4 + 2 + 3 + 4 + 4 + 4 + 3)

    def test_rows(self):
        changes = [("drop", "one"), ["rise", "six"], ("drop", "one"), ("say", "le", "un"), ("rise", "six")]
        book, words = changed_by(BOOK, changes)
        self.assertEqual(words, ("done", "done", "nothing", "done", "same"))
        self.assertEqual(book, with_terms(SIX, Term("two", TWO.pattern, (("un", "_"),), scope=TWO.scope)))
        self.assertEqual(changed_by(BOOK, ()), (BOOK, ()))
        self.assertEqual(changed_by(BOOK, [("drop", "x")] * 100), (BOOK, ("nothing",) * 100))

    def test_bad_rows(self):
        for changes, number in [(None, -1), ("drop", -1), ({}, -1), (5, -1), (("drop", "one"), 0), ([None], 0)]:
            with self.assertRaises(BadMenu) as caught:
                changed_by(BOOK, changes)
            self.assertEqual(caught.exception.number, number)
        for change in NO_CHANGES:
            with self.assertRaises(BadMenu) as caught:
                changed_by(BOOK, (("drop", "one"), change, None))
            self.assertEqual(caught.exception.number, 1)


def shelf_plainly(book, menu):
    """The books of a shelf, their steps and the rows that lead to them, as [43] tells."""
    books, ways, follows = [book], [()], []
    for at, here in enumerate(books):
        follow = []
        for k, change in enumerate(menu):
            behind, word = changed_plainly(here, change)
            if behind not in books:
                books.append(behind)
                ways.append(ways[at] + (k + 1,))
            follow.append((books.index(behind), word))
        follows.append(tuple(follow))
        if len(books) > 60:
            return None
    return books, ways, follows


def shelf_size(book, menu):
    """How many books can come, by the plain telling."""
    books = [book]
    for here in books:
        for change in menu:
            behind = changed_plainly(here, change)[0]
            if behind not in books:
                books.append(behind)
    return len(books)


class Shelves(unittest.TestCase):
    def test_by_hand(self):
        shelf = Shelf(BOOK, [("drop", "six"), ["add", SIX], ("rise", "two")])
        self.assertEqual(shelf.menu, (("drop", "six"), ("add", SIX), ("rise", "two")))
        books = [BOOK, with_terms(ONE, TWO), with_terms(TWO, ONE, SIX), with_terms(TWO, ONE)]
        self.assertEqual((len(shelf), list(shelf), [shelf[n] for n in range(4)]), (4, books, books))
        self.assertEqual(shelf.follow(0), ((1, "done"), (0, "twice"), (2, "done")))
        self.assertEqual(shelf.follow(3), ((3, "nothing"), (2, "done"), (3, "same")))
        self.assertEqual([shelf.way(n) for n in range(4)], [(), (1,), (3,), (1, 3)])
        self.assertEqual([shelf.after(row) for row in ((), (1,), [1, 2], (3, 1, 1), (1, 3, 2, 1) * 30)], [0, 1, 0, 3, 3])
        self.assertEqual([shelf.place_of(book) for book in books], [0, 1, 2, 3])
        self.assertIsNone(shelf.place_of(with_terms(ONE)))
        self.assertIsNone(shelf.place_of(Book(TONGUE, ())))
        self.assertIsNone(shelf.place_of(None))

    def test_no_books_and_rows(self):
        shelf = Shelf(BOOK, (("drop", "six"), ("drop", "two")))
        for n in (-1, 4, True, False, None, "0", (0,), 10 ** 39):
            for ask in (lambda: shelf[n], lambda: shelf.follow(n), lambda: shelf.way(n)):
                with self.assertRaises(NoBook) as caught:
                    ask()
                self.assertIs(caught.exception.number, n)
        for row, place in [(None, -1), ("12", -1), (1, -1), ({}, -1), ((0,), 0), ((3,), 0), ((1, True), 1), ((1, -1), 1),
                           ((1, 2, "1"), 2), ([[1]], 0), ((None,), 0), ((2, 10 ** 39), 1)]:
            with self.assertRaises(BadRow) as caught:
                shelf.after(row)
            self.assertEqual(caught.exception.number, place)

    def test_bad_menus(self):
        good = ("drop", "one")
        for menu, number in [(None, -1), ((), -1), ([], -1), ("abc", -1), ({}, -1), (good, 0), ((good, good), 1),
                             ((good, ["drop", "one"]), 1), ((good, ("drop", "two"), None, good), 2),
                             ((("add", NEW), ("add", Term("new", ("big", "cat"), [["lion"]]))), 1),
                             (tuple(("drop", word) for word in "abcdefg"), -1), ((None,) * 7, -1)]:
            with self.assertRaises(BadMenu) as caught:
                Shelf(BOOK, menu)
            self.assertEqual(caught.exception.number, number)
        for change in NO_CHANGES:
            with self.assertRaises(BadMenu) as caught:
                Shelf(BOOK, (good, change))
            self.assertEqual(caught.exception.number, 1)
        self.assertEqual(len(Shelf(BOOK, tuple(("drop", word) for word in "abcdef"))), 1)

    def test_against_a_plain_telling(self):
        books = many = 0
        for seed in range(150):
            chance = random.Random(seed)
            book = plain.some_book(seed, terms=3)
            menu = []
            for _ in range(chance.randint(1, 6)):
                change = some_change(chance, book)
                if change not in menu:
                    menu.append(change)
            expected = shelf_plainly(book, menu)
            if expected is None:
                many += 1
                self.assertRaises(TooMany, Shelf, book, menu)
                continue
            shelf = Shelf(book, menu)
            self.assertEqual(list(shelf), expected[0])
            for n in range(len(shelf)):
                self.assertEqual((shelf.way(n), shelf.follow(n)), (expected[1][n], expected[2][n]))
                self.assertEqual((shelf.after(shelf.way(n)), shelf.place_of(shelf[n])), (n, n))
            books += len(shelf) > 3
        self.assertGreater(books, 40)

    def test_just_60_books_and_more(self):
        five = with_terms(*[Term(name, ("the",), ((name,),)) for name in "abcde"])
        four = with_terms(*five.terms[:4])
        rises = tuple(("rise", name) for name in "abcd")
        # All orders of four terms, and of three of them, in two scopes.
        shelf = Shelf(four, rises + (("drop", "d"), ("scope", "c", ("plain",))))
        self.assertEqual(len(shelf), 60)
        self.assertEqual(shelf.place_of(shelf[59]), 59)
        # A book with two terms, and six changes that make just one book more.
        two = with_terms(*five.terms[:2])
        menu = [("add", Term("d", ("the",), (("a",),))), ("rise", "b"), ("say", "a", "z"), ("scope", "a", ("quoted",)),
                ("ways", "b", (("a",),)), ("drop", "a")]
        self.assertEqual(len(Shelf(two, menu[:4] + menu[5:])), shelf_size(two, menu[:4] + menu[5:]))
        self.assertEqual(shelf_size(two, menu), 61)
        self.assertRaises(TooMany, Shelf, two, menu)
        drops = (("drop", "d"), ("drop", "a"), ("drop", "c"), ("rise", "e"), ("rise", "b"))
        for book, menu, many in [(five, drops + (("scope", "b", ("plain",)),), 62),
                                 (four, rises + (("ways", "c", (("x",),)), ("ways", "c", (("y",),))), 72)]:
            self.assertIsNone(shelf_plainly(book, menu), many)
            with self.assertRaises(TooMany) as caught:
                Shelf(book, menu)
            self.assertEqual(caught.exception.word, "book")


if __name__ == "__main__":
    unittest.main()
