import itertools
import unittest

import brute
import plain
from keptacross.books import Book
from keptacross.carrying import BEGINNING, finish, hear
from keptacross.errors import BadLot, Foreign, TooMany
from keptacross.handover import THINGS
from keptacross.seams import Seams, judge_seams, least_lots
from keptacross.styles import Style
from keptacross.terms import Term
from keptacross.tongues import Tongue
from keptacross.wordmaps import WordMap
from test_alike import NOTHING, is_owed
from test_handover import ALL_LOTS, NO_LOTS, at_cut_plainly, hands_plainly
from test_keeping_able import is_room
from test_outlooks import counter, first_ways

FIRST = (0, BEGINNING, BEGINNING, NOTHING)


def chapters_of(row):
    """The pieces of a reading with cuts."""
    chapters = [[]]
    for word, pick, cut in row:
        if cut:
            chapters.append([])
        chapters[-1].append((word, pick))
    return chapters


def rows_of_steps(book, style, headings, length):
    """All rows of steps that are readings of a style with at most so many words, in order."""
    for reading in brute.readings(style, book.picks, length):
        places = [(0, 1) if k > 0 and (not headings or word in book.tongue.headings) else (0,)
                  for k, (word, _) in enumerate(reading)]
        # Readings of one length are gone through step by step: so the rows of one length are sorted below.
        yield from [tuple((word, pick, cut) for (word, pick), cut in zip(reading, cuts))
                    for cuts in itertools.product(*places)]


def least_plainly(book, style, lot, headings, length):
    """The least row of steps for which unlike things are said, of those with at most so many words."""
    wrong = [row for row in rows_of_steps(book, style, headings, length)
             if hands_plainly(book, chapters_of(row), lot) != plain.page(book, [step[:2] for step in row])]
    return min(wrong, key=lambda row: (len(row), row)) if wrong else None


def closed(book, style, lot, headings, table):
    """Judges a table plainly."""
    def form(row):
        return (isinstance(row, tuple) and len(row) == 4 and is_room(row[0], style) and isinstance(row[1], tuple)
                and isinstance(row[2], tuple) and is_owed(row[3]))

    def good(row, rows):
        room, whole, apart, owed = row
        for word, leads in style.let(room):
            for pick in range(book.picks):
                _, said, ahead = hear(book, whole, word, pick)
                begun = [((), apart)]
                if not headings or word in book.tongue.headings:
                    begun.append(at_cut_plainly(book, apart, lot))
                for before, standing in begun:
                    _, told, behind = hear(book, standing, word, pick)
                    if (leads, ahead, behind, brute.strip(owed[0] + said, owed[1] + before + told)) not in rows:
                        return False
        return not style.is_end(room) or owed[0] + finish(book, whole)[1] == owed[1] + finish(book, apart)[1]

    return brute.judge(table, form, [FIRST], good)


def small(seed):
    """A small book and a style, made by chance."""
    book = plain.some_book(seed, many=3, terms=3)
    return book, brute.some_style(seed, book.tongue.words)


class Enough(unittest.TestCase):
    def setUp(self):
        self.tongue = Tongue(("a", "b", "h", "q"), headings=("h",), quote="q")
        self.style = Style.free(self.tongue.words)

    def enough(self, terms, lots, at_headings):
        book = Book(self.tongue, terms, turns=(("k", WordMap((("x", "y"),))),))
        self.assertEqual(least_lots(book, self.style), lots)
        self.assertEqual(least_lots(book, self.style, headings=True), at_headings)

    def test_each_thing_by_itself(self):
        self.enough((), ((),), ((),))
        self.enough((Term("t", ("a",), (("x",),)),), ((),), ((),))
        self.enough((Term("t", ("a", "b"), (("x",),)),), (("held",),), ((),))
        self.enough((Term("t", ("a", "h"), (("x",),)),), (("held",),), (("held",),))
        self.enough((Term("t", ("a",), (("x",),), scope=("in", "h")),), (("scope",),), ((),))
        self.enough((Term("t", ("a",), (("x",),), scope=("quoted",)),), (("scope",),), ((),))
        self.enough((Term("t", ("a",), (("x",),), scope=("behind", "b")),), (("scope",),), ((),))
        self.enough((Term("t", ("a",), (("x",),), first=("f",)),), (("used",),), ((),))
        self.enough((Term("s", ("a",), ((),), turn="k"), Term("t", ("b",), (("x",),))), (("turn",),), ((),))
        self.enough((Term("s", ("a",), ((),), turn="k"), Term("t", ("h",), (("x",),))), (("turn",),), (("turn",),))

    def test_several_things(self):
        self.enough((Term("t", ("a", "b"), (("x",),), first=("f",)),), (("held", "used"),), ((),))
        self.enough((Term("t", ("a", "b"), (("x",),), scope=("quoted",)), Term("u", ("b",), (("v",),), first=("w",))),
                    (("held", "scope", "used"),), ((),))

    def test_tables_and_rows(self):
        book = Book(self.tongue, (Term("t", ("a", "b"), (("x",), ("y",))),))
        apart = Seams(book, self.style, [])
        self.assertEqual((bool(apart), apart.row, apart.table), (False, (("a", 0, 0), ("b", 0, 1)), None))
        enough = Seams(book, self.style, ["held"])
        self.assertEqual((bool(enough), enough.row), (True, None))
        self.assertEqual(enough.table[0], FIRST)
        self.assertTrue(all(row[1][5] == row[2][5] and row[3] == NOTHING for row in enough.table))
        at_headings = Seams(book, self.style, (), headings=True)
        self.assertEqual((bool(at_headings), at_headings.row), (True, None))
        self.assertIsNone(judge_seams(book, self.style, (), at_headings.table, headings=True))
        self.assertNotEqual(judge_seams(book, self.style, (), at_headings.table), None)

    def test_what_is_owed(self):
        # The whole waits with what the hands have said already.
        book = Book(self.tongue, (Term("t", ("a", "b", "a"), (("a", "b", "a"),)),))
        enough = Seams(book, self.style, ())
        self.assertTrue(enough)
        self.assertIn(((), ("a", "b")), [row[3] for row in enough.table])
        self.assertEqual(least_lots(book, self.style), ((),))

    def test_the_lot_of_all_things_is_enough(self):
        for seed in range(40):
            book, style = small(seed)
            enough = brute.asked(lambda: (Seams(book, style, THINGS),))
            self.assertTrue(enough is None or enough[0])

    def test_against_plain_searches(self):
        some = {True: 0, False: 0}
        for seed in range(220):
            book, style = small(seed)
            lot, headings = ALL_LOTS[seed * 5 % 16], seed % 3 == 0
            seams = brute.asked(lambda: (Seams(book, style, lot, headings=headings),))
            if seams is None:
                continue
            seams = seams[0]
            length = 3 if book.picks < 3 else 2
            expected = least_plainly(book, style, lot, headings, length)
            some[bool(seams)] += 1
            if seams:
                self.assertEqual((seams.row, expected), (None, None))
                self.assertEqual(seams.table[0], FIRST)
                self.assertIsNone(judge_seams(book, style, lot, seams.table, headings=headings))
                self.assertIsNone(closed(book, style, lot, headings, seams.table))
            elif expected is not None:
                self.assertEqual((seams.row, seams.table), (expected, None))
            else:
                self.assertGreater(len(seams.row), length)
                said = hands_plainly(book, chapters_of(seams.row), lot)
                self.assertNotEqual(said, plain.page(book, [step[:2] for step in seams.row]))
                self.assertTrue(style.reads([step[0] for step in seams.row]))
        self.assertGreater(some[True], 60)
        self.assertGreater(some[False], 30)

    def test_order_of_the_table(self):
        for seed in range(60):
            book, style = small(seed)
            seams = brute.asked(lambda: Seams(book, style, ("held", "scope"), headings=seed % 2 == 0))
            if not seams:
                continue
            found = [FIRST[:3]]
            for room, whole, apart in found:
                for word, leads in style.let(room):
                    for pick in range(book.picks):
                        begun = [apart]
                        if seed % 2 or word in book.tongue.headings:
                            begun.append(at_cut_plainly(book, apart, ("held", "scope"))[1])
                        for standing in begun:
                            triple = (leads, hear(book, whole, word, pick)[2], hear(book, standing, word, pick)[2])
                            if triple not in found:
                                found.append(triple)
            self.assertEqual([row[:3] for row in seams.table], found)

    def test_least_lots_against_single_ones(self):
        several = 0
        for seed in range(22):
            book, style = small(seed)
            for headings in (False, True):
                lots = brute.asked(lambda: [lot for lot in ALL_LOTS if Seams(book, style, lot, headings=headings)])
                if lots is None:
                    continue
                least = tuple(lot for lot in lots if not any(set(part) < set(lot) for part in lots))
                self.assertEqual(least_lots(book, style, headings=headings), least)
                several += least != ((),)
        self.assertGreater(several, 5)

    def test_spoilt_tables(self):
        judged = set()
        for seed in range(40):
            book, style = small(seed)
            lot, headings = ALL_LOTS[seed * 3 % 16], seed % 2 == 0
            seams = brute.asked(lambda: Seams(book, style, lot, headings=headings))
            if not seams or len(seams.table) > 14:
                continue
            others = [NOTHING, (("x",), ()), ((), ("x",)), (("x",), ("y",)), (("",), ())]
            for table in itertools.islice(brute.spoilt(seams.table, seed, tuples=(1, 2), others=others), 400):
                found = judge_seams(book, style, lot, table, headings=headings)
                self.assertEqual(found, closed(book, style, lot, headings, table), table)
                judged.add(found)
        self.assertGreater(len(judged), 5)

    def test_unlike_at_the_end_alone(self):
        # No step parts the pages: at the end the whole has said more.
        book = Book(Tongue(("a",)), (Term("t", ("a", "a"), (("a", "a", "a"),)),))
        style = Style(((("a", 1),), (("a", 2),), ()), (2,))
        self.assertEqual(Seams(book, style, ()).row, (("a", 0, 0), ("a", 0, 1)))
        held = BEGINNING[:5] + ((("a", 0),),)
        table = (FIRST, (1, held, held, NOTHING), (2, BEGINNING, BEGINNING, NOTHING), (2, BEGINNING, held, (("a", "a"), ())))
        self.assertEqual((judge_seams(book, style, (), table), closed(book, style, (), False, table)), (3, 3))
        longer = Style(((("a", 1),), (("a", 2),), (("b", 3),), ()), (3,))
        self.assertEqual(judge_seams(Book(Tongue(("a", "b")), book.terms), longer, (), table), 2)

    def test_just_1000_pairs_and_more(self):
        style = Style.free(("a",))
        self.assertEqual(len(Seams(counter(1000), style, ("turn",)).table), 1000)
        self.assertEqual(least_lots(counter(31), style), ((),))
        for ask in (lambda: Seams(counter(1001), style, ("turn",)), lambda: Seams(counter(1001), style, THINGS),
                    lambda: Seams(counter(32), style, ()), lambda: least_lots(counter(32), style),
                    lambda: least_lots(counter(1001), style, headings=True)):
            with self.assertRaises(TooMany) as caught:
                ask()
            self.assertEqual(caught.exception.word, "pair")
        self.assertEqual(len(Seams(counter(31), style, ()).table), 31 * 31)
        self.assertEqual(len(Seams(counter(1000), style, (), headings=True).table), 1000)
        self.assertEqual(len(Seams(first_ways(6), Style.free(tuple("abcdef")), ("used",)).table), 64)

    def test_errors(self):
        style = Style.free(("a", "p", "q"))
        for lot in NO_LOTS:
            for ask in (lambda: Seams(counter(1001), style, lot), lambda: judge_seams(counter(1001), style, lot, None)):
                with self.assertRaises(BadLot) as caught:
                    ask()
                self.assertIs(caught.exception.lot, lot)
        for ask in (lambda: Seams(counter(1001), style, ()), lambda: judge_seams(counter(1001), style, (), None),
                    lambda: least_lots(counter(1001), style)):
            with self.assertRaises(Foreign) as caught:
                ask()
            self.assertEqual(caught.exception.word, "p")


if __name__ == "__main__":
    unittest.main()
