import random
import unittest

import brute
import plain
from keptacross.archives import Archive, Trial, rebook, tried, tried_apart, tried_within
from keptacross.books import Book
from keptacross.carrying import plain_reading
from keptacross.changes import changed
from keptacross.errors import (AcrossError, BadChange, BadPage, BadReading, BadText, Foreign, NoPlace, TooMany, Unlike,
                               Unsettled)
from keptacross.roads import Road
from keptacross.styles import Style
from keptacross.telling import told_by
from keptacross.terms import Term
from keptacross.tongues import Tongue
from test_changes import NO_CHANGES, changed_plainly
from test_commuting import near_change
from test_keeping_able import letters
from test_outlooks import counter
from test_works import NO_READINGS

NO_PLACES = (-1, 2, True, False, None, "0", (0,), 10 ** 39)


def told_of(archive):
    """All that an archive tells."""
    return archive.present, archive.editions, list(archive), len(archive), archive.stale


def lasting(archive):
    """An archive with two pages: of a word, and of another one."""
    archive.enter(plain_reading(("a",)))
    archive.enter((("b", 1),))
    return archive


class Archives(unittest.TestCase):
    def setUp(self):
        self.book = letters((("x",),), (("y",), ("yy",)))
        self.names = self.book.names
        self.style = Style.free(("a", "b"))
        self.archive = lasting(Archive(self.style, self.book))

    def check(self, pages, editions, stale):
        self.assertEqual((list(self.archive), self.archive.editions, self.archive.stale), (pages, editions, stale))
        self.assertEqual((len(self.archive), self.archive.present), (len(pages), editions[-1]))
        self.assertEqual([self.archive[n] for n in range(len(pages))], pages)

    def test_entering(self):
        self.check([(("x",), 0), (("yy",), 0)], (self.book,), ())
        self.assertEqual(self.archive.enter([["b", 0], ["a", 2]]), 2)
        self.assertEqual(self.archive.enter(()), 3)
        self.check([(("x",), 0), (("yy",), 0), (("y", "x"), 0), ((), 0)], (self.book,), ())

    def test_entering_what_cannot_be(self):
        archive = Archive(Style(((("a", 1),), ()), (1,)), self.book)
        for reading in NO_READINGS:
            self.assertRaises(BadReading, archive.enter, reading)
        for reading in [(), (("b", 0),), (("a", 0), ("a", 0)), [["a", 1], ["b", 1]]]:
            with self.assertRaises(BadText) as caught:
                archive.enter(reading)
            self.assertEqual(caught.exception.number, -1)
        self.assertEqual(len(archive), 0)
        self.assertEqual(archive.enter((("a", 0),)), 0)

    def test_amending(self):
        self.assertEqual(self.archive.amend(("drop", "none")), "nothing")
        self.assertEqual(self.archive.amend(["say", "x", "x"]), "same")
        self.check([(("x",), 0), (("yy",), 0)], (self.book,), ())
        self.assertEqual(self.archive.amend(("say", "x", "z")), "done")
        second = changed(self.book, ("say", "x", "z"))[0]
        self.check([(("x",), 0), (("yy",), 0)], (self.book, second), (0, 1))
        self.archive.enter((("a", 0),))
        self.check([(("x",), 0), (("yy",), 0), (("z",), 1)], (self.book, second), (0, 1))
        self.assertEqual(self.archive.amend(("say", "z", "x")), "done")
        self.check([(("x",), 0), (("yy",), 0), (("z",), 1)], (self.book, second, self.book), (0, 1, 2))
        for change in NO_CHANGES:
            with self.assertRaises(BadChange) as caught:
                self.archive.amend(change)
            self.assertIs(caught.exception.change, change)
        self.check([(("x",), 0), (("yy",), 0), (("z",), 1)], (self.book, second, self.book), (0, 1, 2))

    def test_renewing(self):
        self.assertIs(self.archive.renew(1), False)
        self.archive.amend(("say", "x", "z"))
        self.assertIs(self.archive.renew(1), True)
        self.assertEqual(list(self.archive), [(("x",), 0), (("y",), 1)])
        self.assertEqual(self.archive.stale, (0,))
        self.assertIs(self.archive.renew(1), False)
        self.archive.amend(("say", "z", "w"))
        # A page of an elder edition is asked under the book of its own edition.
        self.assertIs(self.archive.renew(0), True)
        self.assertEqual(list(self.archive), [(("w",), 2), (("y",), 1)])
        # A book that comes again is a new edition; pages of the elder one are stale, and can be renewed.
        self.archive.amend(("say", "w", "x"))
        self.assertEqual((self.archive.present, len(self.archive.editions), self.archive.stale), (self.book, 4, (0, 1)))
        self.assertIs(self.archive.renew(0), True)
        self.assertEqual(self.archive[0], (("x",), 3))

    def test_a_page_that_is_not_settled(self):
        self.archive.amend(("say", "x", "yy"))
        self.archive.enter((("a", 0),))
        self.archive.amend(("say", "q", "z"))
        self.archive.amend(("ways", self.names[0], (("p",),)))
        before = told_of(self.archive)
        with self.assertRaises(Unsettled) as caught:
            self.archive.renew(2)
        self.assertEqual(caught.exception.page, ("yy",))
        self.assertEqual(told_of(self.archive), before)
        self.assertIs(self.archive.renew(0), True)
        self.assertEqual(self.archive[0], (("p",), 2))
        self.assertEqual(self.archive[2], (("yy",), 1))

    def test_long_pages(self):
        book = letters((("x",) * 6,))
        archive = Archive(Style.free(("a",)), book)
        archive.enter((("a", 0),) * 10)
        archive.enter((("a", 0),) * 11)
        self.assertIs(archive.renew(1), False)
        archive.amend(("say", "x", "y"))
        self.assertIs(archive.renew(0), True)
        with self.assertRaises(BadPage) as caught:
            archive.renew(1)
        self.assertEqual(caught.exception.number, -1)
        self.assertEqual(list(archive), [(("y",) * 60, 1), (("x",) * 66, 0)])

    def test_too_many_nodes(self):
        archive = Archive(Style.free(("a",)), counter(601))
        archive.enter((("a", 0),))
        archive.amend(("ways", "t", (("x",),)))
        with self.assertRaises(TooMany) as caught:
            archive.renew(0)
        self.assertEqual(caught.exception.word, "node")
        self.assertEqual(archive[0], ((), 0))

    def test_places(self):
        for n in NO_PLACES:
            for ask in (lambda: self.archive[n], lambda: self.archive.renew(n), lambda: tried(self.archive, None, n),
                        lambda: tried_apart(self.archive, ((None,),), n),
                        lambda: tried_within(self.archive, ((None,),), n)):
                with self.assertRaises(NoPlace) as caught:
                    ask()
                self.assertIs(caught.exception.place, n)

    def test_assigning(self):
        other = Book(self.book.tongue, self.book.terms[1:])
        self.archive.present = Book(self.book.tongue, self.book.terms)
        self.check([(("x",), 0), (("yy",), 0)], (self.book,), ())
        self.archive.present = other
        self.check([(("x",), 0), (("yy",), 0)], (self.book, other), (0, 1))
        self.assertEqual(rebook(self.archive, other), 2)
        self.assertEqual(rebook(self.archive, self.book), 3)
        self.check([(("x",), 0), (("yy",), 0)], (self.book, other, self.book), (0, 1))
        foreign = Book(Tongue(("a", "b", "c")))

        def assign():
            self.archive.present = foreign

        for ask in (assign, lambda: rebook(self.archive, foreign)):
            with self.assertRaises(Unlike) as caught:
                ask()
            self.assertEqual(caught.exception.word, "tongues")
        self.check([(("x",), 0), (("yy",), 0)], (self.book, other, self.book), (0, 1))

    def test_foreign(self):
        with self.assertRaises(Foreign) as caught:
            Archive(Style.free(("a", "b", "p", "q")), self.book)
        self.assertEqual(caught.exception.word, "p")

    def test_what_is_told_belongs_to_the_caller(self):
        told = list(self.archive)
        told.append(None)
        self.assertEqual(len(self.archive), 2)
        self.assertIsInstance(self.archive.editions, tuple)
        self.assertIsInstance(self.archive.stale, tuple)

    def test_pages_are_those_of_the_texts(self):
        renewed = kept = 0
        for seed in range(150):
            chance = random.Random(seed)
            book = plain.some_book(seed, many=3, terms=4)
            style = brute.some_style(seed, book.tongue.words)
            archive = Archive(style, book)
            books, pages, readings = [book], [], []
            for _ in range(14):
                kind = chance.choice(["enter", "amend", "renew", "renew", "rebook"])
                if kind == "enter":
                    readings.append(chance.choice(brute.readings(style, 3, 3)[-200:]))
                    self.assertEqual(archive.enter(readings[-1]), len(pages))
                    pages.append((plain.page(books[-1], readings[-1]), len(books) - 1))
                elif kind == "amend":
                    change = near_change(chance, books[-1])
                    new, word = changed_plainly(books[-1], change)
                    self.assertEqual(archive.amend(change), word)
                    books += [new] if word == "done" else []
                elif kind == "rebook":
                    new = chance.choice(books)
                    books += [new] if new != books[-1] else []
                    self.assertEqual(rebook(archive, new), len(books))
                elif pages:
                    n = chance.randrange(len(pages))
                    page, edition = pages[n]
                    try:
                        self.assertEqual(archive.renew(n), edition != len(books) - 1)
                        if edition != len(books) - 1:
                            plainly = plain.page(books[-1], [(word, 0) for word, _ in readings[n]])
                            pages[n] = (plainly, len(books) - 1)
                            renewed += 1
                    except AcrossError as error:
                        kept += 1
                        with self.assertRaises(type(error)):
                            told_by(Road(books[edition]), page, Road(books[-1]), style)
                self.assertEqual(told_of(archive), (books[-1], tuple(books), pages, len(pages),
                                                    tuple(n for n, page in enumerate(pages) if page[1] < len(books) - 1)))
        self.assertGreater(renewed, 80)
        self.assertGreater(kept, 20)


class Trials(unittest.TestCase):
    def setUp(self):
        self.book = letters((("x",),), (("y",), ("yy",)))
        self.archive = lasting(Archive(Style.free(("a", "b")), self.book))
        self.archive.amend(("say", "x", "z"))
        self.before = told_of(self.archive)

    def tearDown(self):
        self.assertEqual(told_of(self.archive), self.before)

    def spoil(self, archive):
        archive.enter((("a", 0),))
        archive.amend(("drop", self.book.names[1]))
        archive.renew(0)
        archive.present = self.book

    def test_a_trial(self):
        with Trial(self.archive) as archive:
            self.assertIs(archive, self.archive)
            self.spoil(archive)
            self.assertEqual((len(archive), len(archive.editions), archive[0]), (3, 4, (("z",), 2)))
            self.assertNotEqual(told_of(archive), self.before)

    def test_trials_within_one_another(self):
        with Trial(self.archive) as archive:
            self.spoil(archive)
            between = told_of(archive)
            with Trial(archive) as other:
                self.spoil(other)
                self.spoil(other)
                self.assertNotEqual(told_of(archive), between)
            self.assertEqual(told_of(archive), between)
            archive.enter((("b", 0),))

    def test_the_same_trial_used_again(self):
        trial = Trial(self.archive)
        for _ in range(3):
            with trial as archive:
                self.spoil(archive)
                between = told_of(archive)
                with trial:
                    self.spoil(archive)
                    third = told_of(archive)
                    with trial as inner:
                        self.spoil(inner)
                    self.assertEqual(told_of(archive), third)
                self.assertEqual(told_of(archive), between)
            self.assertEqual(told_of(self.archive), self.before)
        # What is done between two uses stays.
        self.archive.enter((("b", 0),))
        with trial as archive:
            self.spoil(archive)
        self.assertEqual(len(self.archive), 3)
        self.before = told_of(self.archive)

    def test_a_trial_that_ends_by_an_error(self):
        with self.assertRaises(BadChange):
            with Trial(self.archive) as archive:
                self.spoil(archive)
                archive.amend(None)
        with self.assertRaises(ZeroDivisionError):
            with Trial(self.archive) as archive:
                with Trial(archive):
                    self.spoil(archive)
                    1 // 0

    def test_tried(self):
        name = self.book.names[0]
        self.assertEqual(tried(self.archive, (("say", "z", "w"), ["drop", "none"]), 0), (("done", "nothing"), ("w",)))
        self.assertEqual(tried(self.archive, [], 0), ((), ("z",)))
        self.assertEqual(tried(self.archive, (), 1), ((), ("y",)))
        self.assertEqual(tried(self.archive, (("ways", name, ((),)),) * 2, 0), (("done", "same"), ()))

    def test_tried_apart_and_within(self):
        name = self.book.names[0]
        lots = ((("say", "z", "w"),), [["say", "z", "v"], ("say", "v", "u")], (), (("ways", name, (("p", "p"),)),))
        self.assertEqual(tried_apart(self.archive, lots, 0), (("w",), ("u",), ("z",), ("p", "p")))
        self.assertEqual(tried_within(self.archive, lots, 0), (("w",), ("w",), ("w",), ("p", "p")))
        self.assertEqual(tried_within(self.archive, lots[1:] + lots[:1], 0), (("u",), ("u",), ("p", "p"), ("p", "p")))
        self.assertEqual((tried_apart(self.archive, (), 0), tried_within(self.archive, [], 0)), ((), ()))
        eight = tuple((("say", one, other),) for one, other in zip("zabcdefg", "abcdefgh"))
        self.assertEqual(tried_within(self.archive, eight, 0), tuple((word,) for word in "abcdefgh"))

    def test_errors_lot_by_lot(self):
        name = self.book.names[0]
        same = ("say", "z", "yy")
        for ask in (lambda: tried(self.archive, (("say", "z", "w"), None), 0),
                    lambda: tried_apart(self.archive, ((), (("say", "z", "w"), None)), 0),
                    lambda: tried_within(self.archive, ((), (("say", "z", "w"), None)), 0)):
            with self.assertRaises(BadChange) as caught:
                ask()
            self.assertIs(caught.exception.change, None)
            self.assertEqual(told_of(self.archive), self.before)
        # Behind the first lot the page tells nothing more: apart all is well, within one another it is not.
        lots = ((same,), (("ways", name, (("p",),)),))
        self.assertEqual(tried_apart(self.archive, lots, 0), (("yy",), ("p",)))
        with self.assertRaises(Unsettled) as caught:
            tried_within(self.archive, lots, 0)
        self.assertEqual(caught.exception.page, ("yy",))
        with Trial(self.archive) as archive:
            archive.amend(same)
            archive.renew(0)
            archive.amend(("ways", name, (("p",),)))
            before = told_of(archive)
            self.assertRaises(Unsettled, tried, archive, (), 0)
            self.assertEqual(told_of(archive), before)

    def test_against_archives_of_their_own(self):
        done = 0
        for seed in range(80):
            chance = random.Random(seed)
            book = plain.some_book(seed, many=3, terms=4)
            style = brute.some_style(seed, book.tongue.words)
            reading = chance.choice(brute.readings(style, 3, 3)[-100:])
            lots = [tuple(near_change(chance, book) for _ in range(chance.randint(0, 2))) for _ in range(3)]

            def fresh():
                archive = Archive(style, book)
                archive.enter(reading)
                return archive

            def page_behind(archive, changes):
                words = tuple(archive.amend(change) for change in changes)
                archive.renew(0)
                return words, archive[0][0]

            archive = fresh()
            one = fresh()
            for ask, expected in [(lambda: tried(archive, lots[0], 0), lambda: page_behind(fresh(), lots[0])),
                                  (lambda: tried_apart(archive, lots, 0),
                                   lambda: tuple(page_behind(fresh(), lot)[1] for lot in lots)),
                                  (lambda: tried_within(archive, lots, 0),
                                   lambda: tuple(page_behind(one, lot)[1] for lot in lots))]:
                try:
                    told = expected()
                except AcrossError as error:
                    self.assertRaises(type(error), ask)
                else:
                    done += 1
                    self.assertEqual(ask(), told)
                self.assertEqual(told_of(archive), told_of(fresh()))
        self.assertGreater(done, 80)

    def test_a_term_taken_off_and_on(self):
        term = Term("new", ("a",), (("n",),))
        changes = (("drop", self.book.names[0]), ("add", term))
        self.assertEqual(tried(self.archive, changes, 0), (("done", "done"), ("n",)))


if __name__ == "__main__":
    unittest.main()
