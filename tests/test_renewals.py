import itertools
import random
import unittest

import brute
import plain
from keptacross.books import Book
from keptacross.detours import detour, leading_back, lookings
from keptacross.errors import BadPage, BadRow, Foreign, NoBook, NoSource, TooMany, Unsettled
from keptacross.known import Known
from keptacross.renewals import Renewals, renewed
from keptacross.roads import Road
from keptacross.shelves import Shelf
from keptacross.styles import Style
from keptacross.telling import told_by
from keptacross.terms import Term
from keptacross.tongues import Tongue
from test_commuting import done_plainly, near_change
from test_keeping_able import letters
from test_outlooks import counter
from test_telling_sources import NO_PAGES
from test_wants_known import two_rings


def some_shelf(seed):
    """A shelf made by chance, None if it has too many books, and a style."""
    chance = random.Random(seed)
    book = plain.some_book(seed, many=2, terms=3)
    menu = []
    while len(menu) < 1 + seed % 4:
        change = near_change(chance, book)
        if change not in menu:
            menu.append(change)
    return brute.asked(lambda: Shelf(book, menu)), brute.some_style(seed, book.tongue.words)


def tells_plainly(old, new, style, length):
    """Whether no two short readings with one page of the old book have other pages with the new book, picks 0."""
    told = {}
    for reading in brute.readings(style, old.picks, length):
        row = plain.page(new, [(word, 0) for word, _ in reading])
        if told.setdefault(plain.page(old, reading), row) != row:
            return False
    return True


def sure_plainly(shelf, style, n, k):
    behind = shelf.follow(n)[k - 1][0]
    return behind == n or bool(Known(Road(shelf[n]), Road(shelf[behind]), style))


def rows_of(shelf, length):
    """All rows of changes with at most so many, in order."""
    numbers = range(1, len(shelf.menu) + 1)
    return [row for many in range(length + 1) for row in itertools.product(numbers, repeat=many)]


def shelf_by_hand():
    """Words that are said alike when x becomes y, and can then no more be told apart."""
    return Shelf(letters((("x",),), (("y",),)), (("say", "x", "y"), ("say", "x", "z"), ("drop", "none")))


class RowsOfChanges(unittest.TestCase):
    def setUp(self):
        self.style = Style.free(("a", "b"))
        self.shelf = shelf_by_hand()

    def test_by_hand(self):
        # 0 says x and y, 1 says y and y, 2 says z and y; whatever is said once for both is not told apart any more.
        self.assertEqual([self.shelf.follow(n) for n in range(3)],
                         [((1, "done"), (2, "done"), (0, "nothing")), ((1, "nothing"), (1, "nothing"), (1, "nothing")),
                          ((2, "nothing"), (2, "nothing"), (2, "nothing"))])
        renewals = Renewals(self.shelf, self.style)
        self.assertEqual((bool(renewals), renewals.row, renewals.pair), (True, None, None))
        self.assertEqual(renewals.table, tuple((n, k, self.shelf.follow(n)[k - 1][0]) for n in range(3) for k in (1, 2, 3)))
        self.assertTrue(all(renewals.sure(n, k) for n in range(3) for k in (1, 2, 3)))

    def test_not_all_are_sure(self):
        book = letters((("x",),), (("y",),))
        first = book.names[0]
        shelf = Shelf(book, (("say", "x", "y"), ("ways", first, (("z",),)), ("drop", "none")))
        renewals = Renewals(shelf, self.style)
        # Behind the first change both words are said alike: then the second one is not sure.
        self.assertEqual((bool(renewals), renewals.row, renewals.table), (False, (1, 2), None))
        left, right = renewals.pair
        behind = shelf[shelf.after((1, 2))]
        self.assertEqual(plain.page(shelf[1], left), plain.page(shelf[1], right))
        self.assertNotEqual(plain.page(behind, left), plain.page(behind, right))
        self.assertEqual([[renewals.sure(n, k) for k in (1, 2, 3)] for n in range(len(shelf))],
                         [[True, True, True], [True, False, True], [True, True, True]])

    def test_wrong_numbers(self):
        renewals = Renewals(self.shelf, self.style)
        for n in (-1, 3, True, False, None, "0", (0,)):
            for ask in (lambda: renewals.sure(n, None), lambda: detour(renewals, n, 99), lambda: lookings(renewals, n, 99),
                        lambda: detour(renewals, 0, n), lambda: lookings(renewals, 0, n)):
                with self.assertRaises(NoBook) as caught:
                    ask()
                self.assertIs(caught.exception.number, n)
        for k in (0, 4, -1, True, False, None, "1", (1,)):
            with self.assertRaises(BadRow) as caught:
                renewals.sure(0, k)
            self.assertEqual(caught.exception.number, 0)

    def test_against_plain_searches(self):
        all_sure = not_all = longer = 0
        for seed in range(170):
            shelf, style = some_shelf(seed)
            renewals = shelf and brute.asked(lambda: Renewals(shelf, style))
            if not isinstance(renewals, Renewals):
                continue
            changes = range(1, len(shelf.menu) + 1)
            unsure = set()
            for n in range(len(shelf)):
                for k in changes:
                    sure = renewals.sure(n, k)
                    self.assertEqual(sure, sure_plainly(shelf, style, n, k))
                    if sure and len(shelf) < 8 and shelf.follow(n)[k - 1][0] != n:
                        self.assertTrue(tells_plainly(shelf[n], shelf[shelf.follow(n)[k - 1][0]], style, 2))
                    elif not sure:
                        unsure.add((n, k))
            rows = [row for row in rows_of(shelf, 4) if row and (shelf.after(row[:-1]), row[-1]) in unsure]
            if renewals:
                all_sure += 1
                self.assertEqual((rows, unsure, renewals.row, renewals.pair), ([], set(), None, None))
                self.assertEqual(renewals.table, tuple((n, k, shelf.follow(n)[k - 1][0])
                                                       for n in range(len(shelf)) for k in changes))
            else:
                not_all += 1
                self.assertIsNone(renewals.table)
                if rows:
                    self.assertEqual(renewals.row, rows[0])
                    longer += len(rows[0]) > 1
                left, right = renewals.pair
                old = done_plainly(shelf[0], *[shelf.menu[k - 1] for k in renewals.row[:-1]])
                new = done_plainly(shelf[0], *[shelf.menu[k - 1] for k in renewals.row])
                self.assertEqual(plain.page(old, left), plain.page(old, right))
                self.assertNotEqual(*[plain.page(new, [(word, 0) for word, _ in side]) for side in (left, right)])
        self.assertGreater(all_sure, 20)
        self.assertGreater(not_all, 20)
        self.assertGreater(longer, 3)

    def test_equal_books_are_not_compared(self):
        # A book with too many standings: nothing is compared where all changes are idle.
        shelf = Shelf(counter(301), (("drop", "x"), ("say", "x", "y")))
        renewals = Renewals(shelf, Style.free(("a",)))
        self.assertEqual((bool(renewals), renewals.table), (True, ((0, 1, 0), (0, 2, 0))))
        self.assertEqual(leading_back(shelf, Style.free(("a",))), (0,))
        shelf = Shelf(counter(301), (("ways", "t", (("x",),)),))
        for ask in (Renewals, leading_back):
            with self.assertRaises(TooMany) as caught:
                ask(shelf, Style.free(("a",)))
            self.assertEqual(caught.exception.word, "standing")
        self.assertFalse(Renewals(Shelf(counter(12), (("ways", "t", (("x",),)),)), Style.free(("a",))))

    def test_too_many_pairs(self):
        road, style = two_rings(43, 11)
        shelf = Shelf(road.books[0], (("add", Term("znew", (road.books[0].tongue.words[0],) * 3, ((),))),))
        expected = brute.asked(lambda: Known(road, Road(shelf[1]), style))
        if expected is None:
            with self.assertRaises(TooMany) as caught:
                Renewals(shelf, style)
            self.assertEqual(caught.exception.word, "pair")
        else:
            self.assertEqual(bool(Renewals(shelf, style)), bool(expected))

    def test_foreign(self):
        shelf = Shelf(counter(301), (("drop", "x"),))
        for ask in (lambda style: Renewals(shelf, style), lambda style: leading_back(shelf, style),
                    lambda style: renewed(shelf, style, ("x",), ())):
            with self.assertRaises(Foreign) as caught:
                ask(Style.free(("a", "p", "q")))
            self.assertEqual(caught.exception.word, "p")


class Renewed(unittest.TestCase):
    def setUp(self):
        self.style = Style.free(("a", "b"))
        self.shelf = shelf_by_hand()

    def test_by_hand(self):
        self.assertEqual(renewed(self.shelf, self.style, ["x", "y"], []), (("x", "y"),))
        self.assertEqual(renewed(self.shelf, self.style, ("x", "y"), [3, 2, 1]),
                         (("x", "y"), ("x", "y"), ("z", "y"), ("z", "y")))
        self.assertEqual(renewed(self.shelf, self.style, ("x",), (1,)), (("x",), ("y",)))

    def test_errors(self):
        for page, number in NO_PAGES:
            with self.assertRaises(BadPage) as caught:
                renewed(self.shelf, Style.free(("p",)), page, None)
            self.assertEqual(caught.exception.number, number)
        for row, place in [(None, -1), ("1", -1), ((0,), 0), ((1, 4), 1), ((1, True), 1), ([3, None], 1)]:
            with self.assertRaises(BadRow) as caught:
                renewed(self.shelf, Style.free(("p",)), ("q",), row)
            self.assertEqual(caught.exception.number, place)
        page = ["q"]
        self.assertEqual(renewed(self.shelf, self.style, page, (3,)), (("q",), ("q",)))
        with self.assertRaises(NoSource) as caught:
            renewed(self.shelf, self.style, page, (3, 1))
        self.assertIs(caught.exception.page, page)

    def test_where_it_ends(self):
        book = letters((("x",),), (("y",),))
        shelf = Shelf(book, (("say", "x", "y"), ("ways", book.names[0], (("z",) * 6,)), ("ways", book.names[1], (("w",),))))
        with self.assertRaises(Unsettled) as caught:
            renewed(shelf, self.style, ("x", "x"), (1, 3))
        self.assertEqual(caught.exception.page, ("y", "y"))
        self.assertEqual(renewed(shelf, self.style, ("x",) * 10, (2,))[1], ("z",) * 60)
        # A page that grows beyond 60 tokens cannot be asked any more.
        self.assertEqual(len(renewed(shelf, self.style, ("x",) * 11, (2,))[1]), 66)
        self.assertEqual(len(renewed(shelf, self.style, ("x",) * 11, (2, 2))[2]), 66)
        with self.assertRaises(BadPage) as caught:
            renewed(shelf, self.style, ("x",) * 11, (2, 3))
        self.assertEqual(caught.exception.number, -1)

    def test_too_many_nodes(self):
        shelf = Shelf(counter(601), (("ways", "t", (("x",),)),))
        with self.assertRaises(TooMany) as caught:
            renewed(shelf, Style.free(("a",)), (), (1,))
        self.assertEqual(caught.exception.word, "node")
        self.assertEqual(renewed(shelf, Style.free(("a",)), (), ()), ((),))

    def test_along_rows(self):
        done = 0
        for seed in range(120):
            shelf, style = some_shelf(seed)
            if shelf is None:
                continue
            reading = brute.readings(style, shelf[0].picks, 3)[-1 - seed % 4:][0]
            page = plain.page(shelf[0], reading)
            for row in rows_of(shelf, 3)[-6:]:
                pages, number, error = [page], 0, None
                for k in row:
                    behind = shelf.follow(number)[k - 1][0]
                    try:
                        pages.append(pages[-1] if behind == number else
                                     told_by(Road(shelf[number]), pages[-1], Road(shelf[behind]), style))
                    except (NoSource, Unsettled, TooMany) as caught:
                        error = caught
                        break
                    number = behind
                if error is None:
                    done += 1
                    self.assertEqual(renewed(shelf, style, page, row), tuple(pages))
                    if len(pages) > 1 and pages[-1] != pages[0]:
                        self.assertEqual(pages[-1], plain.page(shelf[number], [(word, 0) for word, _ in reading]))
                else:
                    with self.assertRaises(type(error)) as caught:
                        renewed(shelf, style, page, row)
                    self.assertEqual(vars(caught.exception), vars(error))
        self.assertGreater(done, 100)


class Detours(unittest.TestCase):
    def test_by_hand(self):
        book = letters((("x",),), (("y",),))
        first = book.names[0]
        shelf = Shelf(book, (("say", "x", "y"), ("ways", first, (("z",),)), ("ways", first, (("x",),))))
        renewals = Renewals(shelf, Style.free(("a", "b")))
        # From 0 to 1 with both words alike, and back again only by looking.
        self.assertEqual([shelf.way(n) for n in range(len(shelf))], [(), (1,), (2,)])
        self.assertEqual([detour(renewals, 0, n) for n in range(3)], [(), (1,), (2,)])
        self.assertEqual([detour(renewals, 1, n) for n in range(3)], [None, (), None])
        self.assertEqual([detour(renewals, 2, n) for n in range(3)], [(3,), (3, 1), ()])
        self.assertEqual([lookings(renewals, 1, n) for n in range(3)], [(1, (3,)), (0, ()), (1, (2,))])
        self.assertEqual(lookings(renewals, 2, 1), (0, (3, 1)))
        self.assertEqual(leading_back(shelf, Style.free(("a", "b"))), (0, 2))

    def test_no_row_leads_there(self):
        book = letters((("x",),), (("y",),))
        shelf = Shelf(book, (("drop", book.names[0]),))
        renewals = Renewals(shelf, Style.free(("a", "b")))
        self.assertEqual((detour(renewals, 1, 0), lookings(renewals, 1, 0)), (None, None))

    def test_a_longer_way_round_with_fewer_lookings(self):
        # Straight on the words are said alike for a while; the way round keeps them apart.
        book = Book(Tongue(("a", "b")), (Term("p", ("a",), (("x",),)), Term("q", ("b",), (("y",),))))
        shelf = Shelf(book, (("ways", "p", (("y",),)), ("ways", "p", (("z",),)), ("ways", "q", (("x",),)),
                             ("ways", "q", (("y",),))))
        renewals = Renewals(shelf, Style.free(("a", "b")))
        lengths = set()
        for n in range(len(shelf)):
            for m in range(len(shelf)):
                found = lookings(renewals, n, m)
                self.assertEqual(found, lookings_plainly(shelf, renewals, n, m, 5))
                if found is not None:
                    straight = [row for row in rows_of(shelf, 5) if number_behind(shelf, n, row) == m][0]
                    lengths.add(len(found[1]) > len(straight))
        self.assertTrue(True in lengths)

    def test_against_plain_searches(self):
        some = fewer = 0
        for seed in range(140):
            shelf, style = some_shelf(seed)
            renewals = shelf and brute.asked(lambda: Renewals(shelf, style))
            if not isinstance(renewals, Renewals) or len(shelf) > 6:
                continue
            for n in range(len(shelf)):
                for m in range(len(shelf)):
                    sure = [row for row in rows_of(shelf, 5) if number_behind(shelf, n, row) == m
                            and many_unsure(shelf, renewals, n, row) == 0]
                    found = detour(renewals, n, m)
                    if sure:
                        self.assertEqual(found, sure[0])
                    elif found is not None:
                        self.assertGreater(len(found), 5)
                    plainly = lookings_plainly(shelf, renewals, n, m, 5)
                    if plainly is not None or lookings(renewals, n, m) is None:
                        self.assertEqual(lookings(renewals, n, m), plainly)
                    some += found is not None and n != m
                    fewer += plainly is not None and plainly[0] > 0
            back = brute.asked(lambda: tuple(n for n in range(len(shelf)) if n == 0
                                             or Known(Road(shelf[n]), Road(shelf[0]), style)))
            self.assertEqual(brute.asked(lambda: leading_back(shelf, style)), back)
        self.assertGreater(some, 50)
        self.assertGreater(fewer, 20)


def number_behind(shelf, n, row):
    for k in row:
        n = shelf.follow(n)[k - 1][0]
    return n


def many_unsure(shelf, renewals, n, row):
    many = 0
    for k in row:
        many += not renewals.sure(n, k)
        n = shelf.follow(n)[k - 1][0]
    return many


def lookings_plainly(shelf, renewals, n, m, length):
    """The least pair of a number of lookings and a row that leads from n to m, of rows with at most so many changes."""
    found = [(many_unsure(shelf, renewals, n, row), len(row), row) for row in rows_of(shelf, length)
             if number_behind(shelf, n, row) == m]
    return (min(found)[0], min(found)[2]) if found else None


if __name__ == "__main__":
    unittest.main()
