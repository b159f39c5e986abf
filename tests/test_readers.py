import itertools
import random
import unittest

import brute
import plain
from keptacross.books import Book
from keptacross.carrying import plain_reading
from keptacross.errors import BadLinks, BadReading, BadRow, BadWork
from keptacross.fulls import least_fulls
from keptacross.readers import Readers, gives, judge_readers, needs
from keptacross.terms import Term
from keptacross.tongues import Tongue
from test_works import NO_READINGS, bad_works

TONGUE = Tongue(("a", "b", "c", "h"), headings=("h",))
TERMS = (Term("one", ("a",), (("x",),), first=("f", "x")), Term("two", ("b",), (("y",),), first=("g",)),
         Term("pair", ("a", "b"), (("p",),), first=("p", "p")), Term("plain", ("c",), (("z",),)))
BOOK = Book(TONGUE, TERMS)
NO_LINKS = (None, "", 5, {}, ((0,),), ((0, 1, 1),), ((0, 3),), ((-1, 0),), ((0, True),), ((1, 0), (0, 1)), ((0, 1), (0, 1)),
            (0, 1), ("01",), ((0, 1), None), ((0, "1"),), [[1, 0], (0, 2)])
NO_LOTS = (None, "", 5, {}, (3,), (-1,), (True,), (1, 0), (0, 0), ("0",), ((0,),), (0, None))


def chapters(*texts):
    return tuple(plain_reading(tuple(text)) for text in texts)


def told_plainly(book, chapter, full):
    """What a chapter gives and needs, from its pieces: a term is in used from its use on, up to a heading."""
    firsts = {term.name for term in book.terms if term.first is not None}
    used = set() if full else set(firsts)
    whole, short = [], []
    for place, width, name, _ in plain.pieces(book, chapter):
        if name in firsts:
            if name not in used:
                whole.append(name)
            elif name not in whole:
                short.append(name)
            used.add(name)
        if any(word in book.tongue.headings for word, _ in chapter[place:place + width]):
            used = set()
    return tuple(sorted(set(whole))), tuple(sorted(set(short)))


def some_book(seed):
    """A book made by chance, whose terms have first ways more often."""
    book = plain.some_book(seed, many=3, terms=4)
    terms = [Term(term.name, term.pattern, term.ways, scope=term.scope, turn=term.turn,
                  first=term.first if term.first is not None or (seed + k) % 3 == 0 else term.ways[0])
             for k, term in enumerate(book.terms)]
    return Book(book.tongue, terms, turns=book.turns)


def some_print(seed):
    """A book, chapters, links, starts and chapters in full, made by chance."""
    chance = random.Random(seed)
    book = some_book(seed)
    many = chance.randint(1, 4)
    work = tuple(plain.some_reading(seed * 10 + k, book, chance.randint(0, 4)) for k in range(many))
    pairs = list(itertools.product(range(many), repeat=2))
    links = tuple(sorted(chance.sample(pairs, chance.randint(0, min(6, len(pairs))))))
    starts = tuple(k for k in range(many) if chance.random() < 0.5)
    full = tuple(k for k in range(many) if chance.random() < 0.6)
    return book, work, links, starts, full


def kept_plainly(book, work, full, path):
    """Whether each chapter of a path needs only what is given ahead of it."""
    met = set()
    for chapter in path:
        whole, short = told_plainly(book, work[chapter], chapter in full)
        if not set(short) <= met:
            return False
        met |= set(whole)
    return True


def paths_of(work, links, starts, length):
    """All paths with at most so many chapters, in order."""
    level = [(start,) for start in starts]
    found = [()]
    while level and len(level[0]) <= length:
        found += level
        level = [path + (end,) for path in level for start, end in links if start == path[-1]]
    return found


def closed(book, work, links, starts, full, table):
    """Judges a table plainly."""
    def form(row):
        return (isinstance(row, tuple) and len(row) == 2 and type(row[0]) is int and 0 <= row[0] < len(work)
                and isinstance(row[1], tuple) and all(isinstance(name, str) and name in book for name in row[1])
                and list(row[1]) == sorted(set(row[1])))

    def good(row, rows):
        whole, short = told_plainly(book, work[row[0]], row[0] in full)
        met = tuple(sorted(set(row[1]) | set(whole)))
        return set(short) <= set(row[1]) and all((end, met) in rows for start, end in links if start == row[0])

    if not starts and isinstance(table, (tuple, list)) and not table:
        return None
    return brute.judge(table, form, [(start, ()) for start in starts], good)


class GivenAndNeeded(unittest.TestCase):
    def test_by_hand(self):
        for text, full, given, needed in [
                ("ab", True, ("pair",), ()), ("ab", False, (), ("pair",)), ("aba", False, (), ("one", "pair")),
                ("a", True, ("one",), ()), ("aa", True, ("one",), ()), ("aa", False, (), ("one",)), ("c", False, (), ()),
                ("aha", False, ("one",), ("one",)), ("ha", False, ("one",), ()), ("aha", True, ("one",), ()),
                ("hahab", False, ("one", "pair"), ()), ("", False, (), ()), ("bha", False, ("one",), ("two",))]:
            reading = plain_reading(tuple(text))
            self.assertEqual((gives(BOOK, reading, full), needs(BOOK, reading, full)), (given, needed), text)
            self.assertEqual(needs(BOOK, brute.as_lists(reading), full), needed)

    def test_against_a_plain_telling(self):
        some = 0
        for seed in range(300):
            book = some_book(seed)
            reading = plain.some_reading(seed, book, 1 + seed % 8)
            for full in (True, False):
                whole, short = told_plainly(book, reading, full)
                self.assertEqual((gives(book, reading, full), needs(book, reading, full)), (whole, short))
                some += len(whole) + len(short) > 1
        self.assertGreater(some, 30)

    def test_errors(self):
        book = Book(Tongue(("a", "b")))
        for reading in NO_READINGS:
            self.assertRaises(BadReading, gives, book, reading, True)
            self.assertRaises(BadReading, needs, book, reading, False)


class Paths(unittest.TestCase):
    def test_by_hand(self):
        work = chapters("a", "ab", "ba")
        readers = Readers(BOOK, work, [[0, 1], [1, 2]], [0], [0, 1, 2])
        self.assertEqual((bool(readers), readers.path), (True, None))
        self.assertEqual(readers.table, ((0, ()), (1, ("one",)), (2, ("one", "pair"))))
        readers = Readers(BOOK, work, ((0, 1), (0, 2), (1, 2), (2, 2)), (0, 1), (0, 1))
        # The chapter 2 needs one and two in short; nobody gives two.
        self.assertEqual((bool(readers), readers.path, readers.table), (False, (0, 2), None))
        readers = Readers(BOOK, chapters("a", "b", "ab", "ba"), ((0, 1), (1, 3), (2, 3), (3, 0)), (0, 2), (0, 1, 2))
        self.assertEqual((bool(readers), readers.path), (False, (2, 3)))
        self.assertEqual([readers.keeps(path) for path in ((), (0,), (0, 1, 3), (0, 1, 3, 0, 1), (2, 3), [2, 3, 0])],
                         [True, True, True, True, False, False])

    def test_no_starts(self):
        readers = Readers(BOOK, chapters("a"), (), (), ())
        self.assertEqual((bool(readers), readers.path, readers.table), (True, None, ()))
        self.assertTrue(readers.keeps(()))
        for table, judged in [((), None), ([], None), (None, -1), ("", -1), (((0, ()),), 0), (((0, ("one",)),), None), ((None,), 0)]:
            self.assertEqual(judge_readers(BOOK, chapters("a"), (), (), (), table), judged)
        self.assertEqual(least_fulls(BOOK, chapters("a"), (), ()), ((),))

    def test_a_start_that_is_not_kept(self):
        readers = Readers(BOOK, chapters("a", "a"), ((0, 1),), (0, 1), (0,))
        self.assertEqual((readers.path, readers.keeps((1,)), readers.keeps((0, 1))), ((1,), False, True))

    def test_bad_paths(self):
        readers = Readers(BOOK, chapters("a", "b", "c"), ((0, 1), (1, 1), (1, 2)), (0, 1), (0, 1, 2))
        for path, place in [(None, -1), ("0", -1), (0, -1), ({}, -1), ((2,), 0), ((0, 2), 1), ((0, 1, 1, 2, 0), 4), ((3,), 0),
                            ((True,), 0), ((0, True), 1), ((-1,), 0), ((0, None), 1), ([[0]], 0), ((0, "1"), 1)]:
            with self.assertRaises(BadRow) as caught:
                readers.keeps(path)
            self.assertEqual(caught.exception.number, place)

    def test_against_plain_searches(self):
        some = {True: 0, False: 0}
        for seed in range(400):
            book, work, links, starts, full = some_print(seed)
            readers = Readers(book, work, links, starts, full)
            paths = paths_of(work, links, starts, 5)[:300]
            wrong = [path for path in paths if not kept_plainly(book, work, full, path)]
            some[bool(readers)] += 1
            if wrong:
                self.assertEqual((bool(readers), readers.path, readers.table), (False, wrong[0], None))
            elif not readers:
                self.assertGreater(len(readers.path), len(paths[-1]) - 1)
            else:
                found = [(start, ()) for start in starts]
                for chapter, met in found:
                    given = set(met) | set(told_plainly(book, work[chapter], chapter in full)[0])
                    for start, end in links:
                        node = (end, tuple(sorted(given)))
                        if start == chapter and node not in found:
                            found.append(node)
                self.assertEqual(readers.table, tuple(found))
                self.assertIsNone(judge_readers(book, work, links, starts, full, readers.table))
            for path in paths[:40]:
                self.assertEqual(readers.keeps(path), kept_plainly(book, work, full, path))
        self.assertGreater(some[True], 80)
        self.assertGreater(some[False], 25)

    def test_spoilt_tables(self):
        judged = set()
        for seed in range(120):
            book, work, links, starts, full = some_print(seed)
            readers = Readers(book, work, links, starts, full)
            if not readers or len(readers.table) < 3:
                continue
            others = [(name,) for name in book.names] + [tuple(sorted(book.names)), book.names[::-1], ("zz",)]
            for table in brute.spoilt(readers.table, seed, others=others):
                found = judge_readers(book, work, links, starts, full, table)
                self.assertEqual(found, closed(book, work, links, starts, full, table), table)
                judged.add(found)
        self.assertGreater(len(judged), 4)

    def test_errors(self):
        three = chapters("a", "b", "c")
        asks = (lambda *told: Readers(BOOK, *told), lambda *told: judge_readers(BOOK, *told, None))
        for ask in asks:
            for links in NO_LINKS:
                with self.assertRaises(BadLinks) as caught:
                    ask(three, links, None, None)
                self.assertEqual(caught.exception.word, "links")
            for lot in NO_LOTS:
                with self.assertRaises(BadLinks) as caught:
                    ask(three, (), lot, None)
                self.assertEqual(caught.exception.word, "starts")
                with self.assertRaises(BadLinks) as caught:
                    ask(three, (), (), lot)
                self.assertEqual(caught.exception.word, "full")
        small = Book(Tongue(("a", "b")))
        for work, number in bad_works():
            for ask in (lambda: Readers(small, work, None, None, None), lambda: least_fulls(small, work, None, None),
                        lambda: judge_readers(small, work, None, None, None, None)):
                with self.assertRaises(BadWork) as caught:
                    ask()
                self.assertEqual(caught.exception.number, number)


class Fulls(unittest.TestCase):
    def test_by_hand(self):
        work = chapters("a", "a", "b")
        self.assertEqual(least_fulls(BOOK, work, ((0, 1), (1, 2)), (0,)), ((0, 2),))
        self.assertEqual(least_fulls(BOOK, work, ((0, 1), (1, 0)), (0, 1)), ((0, 1),))
        self.assertEqual(least_fulls(BOOK, work, [[0, 1]], [2]), ((2,),))
        self.assertEqual(least_fulls(BOOK, chapters("c", "ha"), ((0, 1),), (0, 1)), ((),))

    def test_against_all_lots(self):
        several = 0
        for seed in range(200):
            book, work, links, starts, _ = some_print(seed)
            lots = [lot for many in range(len(work) + 1) for lot in itertools.combinations(range(len(work)), many)
                    if Readers(book, work, links, starts, lot)]
            least = tuple(lot for lot in lots if not any(set(part) < set(lot) for part in lots))
            self.assertEqual(least_fulls(book, work, links, starts), least)
            self.assertIn(tuple(range(len(work))), lots)
            several += least not in ((), ((),))
        self.assertGreater(several, 20)

    def test_errors(self):
        three = chapters("a", "b", "c")
        for links in NO_LINKS:
            with self.assertRaises(BadLinks) as caught:
                least_fulls(BOOK, three, links, None)
            self.assertEqual(caught.exception.word, "links")
        for lot in NO_LOTS:
            with self.assertRaises(BadLinks) as caught:
                least_fulls(BOOK, three, (), lot)
            self.assertEqual(caught.exception.word, "starts")


if __name__ == "__main__":
    unittest.main()
