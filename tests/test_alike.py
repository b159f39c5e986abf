import unittest

import brute
import plain
from keptacross.alike import Alike, judge_alike
from keptacross.books import Book
from keptacross.carrying import BEGINNING
from keptacross.errors import Foreign, TooMany
from keptacross.roads import Road
from keptacross.styles import Style
from keptacross.terms import Term
from keptacross.tongues import Tongue
from test_keeping_able import is_room, letters
from test_outlooks import counter

BEGUN = (BEGINNING,)
NOTHING = ((), ())


def is_owed(thing):
    return (isinstance(thing, tuple) and len(thing) == 2 and all(isinstance(row, tuple) for row in thing)
            and all(isinstance(token, str) and token.removeprefix("*").isalpha() for row in thing for token in row)
            and () in thing)


def closed(first, second, style, table):
    """Judges a table plainly."""
    many = max(first.picks, second.picks)

    def form(row):
        return (isinstance(row, tuple) and len(row) == 4 and is_room(row[0], style) and isinstance(row[1], tuple)
                and isinstance(row[2], tuple) and is_owed(row[3]))

    def good(row, rows):
        room, one, other, owed = row
        for word, leads in style.let(room):
            for pick in range(many):
                said, ahead = first.hear(one, word, pick)
                told, behind = second.hear(other, word, pick)
                if (leads, ahead, behind, brute.strip(owed[0] + said, owed[1] + told)) not in rows:
                    return False
        return not style.is_end(room) or owed[0] + first.finish(one) == owed[1] + second.finish(other)

    return brute.judge(table, form, [(0, first.beginning, second.beginning, NOTHING)], good)


def variant(seed):
    """Two roads that are perhaps alike."""
    first = brute.some_road(seed)
    book = first.books[0]
    kind = seed % 4
    if kind == 0:
        return first, brute.some_road(seed + 7)
    if kind == 1:
        return first, first
    if kind == 2:
        terms = book.terms[:-1]
        return first, Road(Book(book.tongue, terms, turns=book.turns), *first.books[1:])
    words = plain.Tongue(tuple("abxy"))
    kept = Book(words)
    return first, (first + Road(kept) if len(first) < 3 else Road(*first.books[::-1]))


class Alikes(unittest.TestCase):
    def test_alike_with_a_delay(self):
        now = letters((("x",),), (("x", "y"),))
        late = Book(Tongue(("a", "b")), (Term("l", ("a", "a", "b"), (("x", "x", "x", "y"),)),
                                         Term("s", ("a",), (("x",),)), Term("t", ("b",), (("x", "y"),))))
        style = Style.free(("a", "b"))
        alike = Alike(Road(late), Road(now), style)
        held = [("", 0, (), (), (), (("a", 0),) * k) for k in (1, 2)]
        self.assertEqual((alike.reading, bool(alike), len(alike)), (None, True, 3))
        self.assertEqual(alike.table, ((0, BEGUN, BEGUN, NOTHING), (0, (held[0],), BEGUN, ((), ("x",))),
                                       (0, (held[1],), BEGUN, ((), ("x", "x")))))
        self.assertEqual(list(alike), list(alike.table))
        self.assertIsNone(judge_alike(Road(late), Road(now), style, alike.table))

    def test_unlike(self):
        one, other = letters((("x",), ("y",)), (("z",),)), letters((("x",), ("y",)), (("z",), ("w",)))
        alike = Alike(Road(one), Road(other), Style.free(("a", "b")))
        self.assertEqual((alike.reading, alike.table, bool(alike), len(alike), list(alike)),
                         ((("b", 1),), None, False, 0, []))
        style = Style(((("a", 0), ("b", 1)), (("a", 2),), ()), (2,))
        self.assertEqual(Alike(Road(one), Road(other), style).reading, (("b", 1), ("a", 0)))

    def test_picks_are_the_greater_ones(self):
        three, two = letters((("x",), ("x",), ("y",))), letters((("x",), ("x",)))
        self.assertEqual(Alike(Road(two), Road(three), Style.free(("a",))).reading, (("a", 2),))
        self.assertEqual(Alike(Road(three), Road(two), Style.free(("a",))).reading, (("a", 2),))

    def test_unlike_at_the_end_alone(self):
        one = Book(Tongue(("a", "b")), (Term("l", ("a", "b"), (("x",),)), Term("s", ("a",), (("y",),))))
        other = Book(Tongue(("a", "b")), (Term("l", ("a", "b"), (("x",),)), Term("s", ("a",), (("z",),))))
        self.assertEqual(Alike(Road(one), Road(other), Style.free(("a", "b"))).reading, (("a", 0),))
        style = Style(((("a", 1),), (("b", 0),)), (0,))
        self.assertTrue(Alike(Road(one), Road(other), style))

    def test_what_is_owed_can_be_one_of_two_things(self):
        # The first road says x for each word, the second one none for an a: then they are unlike only at the end.
        one, other = letters((("x",),), ((),)), letters(((),), (("x",),))
        style = Style(((("a", 1), ("b", 1)), (("a", 2), ("b", 2)), ()), (2,))
        self.assertEqual(Alike(Road(one), Road(other), style).reading, (("a", 0), ("a", 0)))
        only = Style(((("a", 1),), (("b", 2),), ()), (2,))
        self.assertEqual(Alike(Road(one), Road(other), only).table[1][3], (("x",), ()))
        self.assertEqual(Alike(Road(other), Road(one), only).table[1][3], ((), ("x",)))

    def test_pages_that_part_and_go_on(self):
        one, other = letters((("x", "y"),), (("z",),)), letters((("y", "x"),), (("z",),))
        style = Style(((("a", 1),), (("b", 1), ("c", 2)), ()), (2,))
        book = Book(Tongue(("a", "b", "c")), one.terms)
        changed = Book(Tongue(("a", "b", "c")), other.terms)
        self.assertEqual(Alike(Road(book), Road(changed), style).reading, (("a", 0), ("c", 0)))

    def test_roads_of_more_books(self):
        one, other = letters((("b",),), (("a",),)), letters((("c",),), (("d",),))
        swapped = letters((("d",),), (("c",),))
        style = Style.free(("a", "b"))
        self.assertTrue(Alike(Road(one, other), Road(swapped), style))
        self.assertTrue(Alike(Road(one, one, one), Road(one), style))
        self.assertEqual(Alike(Road(one, one), Road(one), style).reading, (("a", 0),))

    def test_against_a_plain_search(self):
        same = unlike = 0
        for seed in range(240):
            first, second = variant(seed)
            words = [word for word in first.books[0].tongue.words if word in second.books[0].tongue.words]
            style = brute.some_style(seed, words)
            alike = brute.asked(lambda: Alike(first, second, style))
            if alike is None:
                continue
            many = max(first.picks, second.picks)
            reading = next((reading for reading in brute.readings(style, many, 3)
                            if brute.page(first, reading) != brute.page(second, reading)), None)
            self.assertEqual((alike.table is None, alike.reading is None, bool(alike)),
                             (not alike, bool(alike), alike.reading is None))
            if alike:
                same += 1
                self.assertIsNone(reading)
                self.assertIsNone(judge_alike(first, second, style, alike.table))
                self.assertIsNone(closed(first, second, style, alike.table))
                self.assertEqual(len({row[:3] for row in alike.table}), len(alike))
            elif len(alike.reading) <= 3:
                unlike += 1
                self.assertEqual(alike.reading, reading)
            else:
                self.assertIsNone(reading)
                self.assertTrue(style.reads([word for word, _ in alike.reading]))
                self.assertNotEqual(brute.page(first, alike.reading), brute.page(second, alike.reading))
        self.assertGreater(same, 40)
        self.assertGreater(unlike, 40)

    def test_the_order_of_the_table(self):
        for seed in range(60):
            first, second = variant(4 * seed + 1)
            style = brute.some_style(seed, first.books[0].tongue.words)
            alike = brute.asked(lambda: Alike(first, second, style))
            if not alike:
                continue
            found = [(0, first.beginning, second.beginning)]
            for room, one, other in found:
                for word, leads in style.let(room):
                    for pick in range(max(first.picks, second.picks)):
                        triple = (leads, first.hear(one, word, pick)[1], second.hear(other, word, pick)[1])
                        if triple not in found:
                            found.append(triple)
            self.assertEqual([row[:3] for row in alike.table], found)

    def test_just_1000_pairs_and_more(self):
        style = Style.free(("a",))
        self.assertEqual(len(Alike(Road(counter(1000)), Road(counter(8)), style)), 1000)
        self.assertEqual(len(Alike(Road(counter(8)), Road(counter(125)), style)), 1000)
        for first, second in [(counter(1001), counter(1)), (counter(7), counter(143))]:
            with self.assertRaises(TooMany) as caught:
                Alike(Road(first), Road(second), style)
            self.assertEqual(caught.exception.word, "pair")

    def test_too_many_whether_alike_or_not(self):
        ring = counter(1001)
        one = Book(Tongue(("a", "b")), ring.terms + (Term("b", ("b",), (("x",),)),), turns=ring.turns)
        other = Book(Tongue(("a", "b")), (Term("a", ("a",), (("y",),)),))
        with self.assertRaises(TooMany):
            Alike(Road(one), Road(other), Style.free(("a", "b")))

    def test_foreign(self):
        style = Style.free(("a", "p", "q"))
        one, other = Road(counter(1001)), Road(Book(Tongue(("a", "p"))))
        for first, second, word in [(one, other, "p"), (other, one, "q")]:
            for ask in (lambda: Alike(first, second, style), lambda: judge_alike(first, second, style, None)):
                with self.assertRaises(Foreign) as caught:
                    ask()
                self.assertEqual(caught.exception.word, word)
        both = Road(Book(Tongue(("a", "p", "q"))))
        for ask in (lambda: Alike(both, one, style), lambda: judge_alike(both, one, style, None)):
            with self.assertRaises(Foreign) as caught:
                ask()
            self.assertEqual(caught.exception.word, "p")


class Judging(unittest.TestCase):
    def test_spoilt_tables(self):
        judged = 0
        for seed in range(120):
            first, second = variant(seed)
            words = [word for word in first.books[0].tongue.words if word in second.books[0].tongue.words]
            style = brute.some_style(seed, words)
            alike = brute.asked(lambda: Alike(first, second, style))
            if not alike or len(alike) > 6:
                continue
            others = [NOTHING, (("x",), ()), ((), ("*n",)), (("x",), ("x",)), (("_",), ()), ("x", ()), ((), (1,)), ((),)]
            for table in brute.spoilt(alike.table, seed, tuples=(1, 2), others=others):
                judged += 1
                self.assertEqual(judge_alike(first, second, style, table), closed(first, second, style, table), table)
        self.assertGreater(judged, 500)

    def test_by_hand(self):
        now = Road(letters((("x",),), (("x", "y"),)))
        late = Road(Book(Tongue(("a", "b")), (Term("l", ("a", "b"), (("x", "x", "y"),)), Term("s", ("a",), (("x",),)),
                                              Term("t", ("b",), (("x", "y"),)))))
        style = Style.free(("a", "b"))
        first, second = Alike(late, now, style).table
        self.assertIsNone(judge_alike(late, now, style, (second, first)))
        self.assertEqual(judge_alike(late, now, style, (first,)), 0)
        self.assertEqual(judge_alike(late, now, style, (second,)), -1)
        self.assertEqual(judge_alike(late, now, style, (second[:3] + (((), ("y",)),), first)), 0)
        self.assertEqual(judge_alike(late, now, style, (first, second, second[:3] + (NOTHING,))), 2)
        self.assertEqual(judge_alike(late, now, style, (first, second, second[:3] + ((("x",), ("x",)),))), 2)
        self.assertEqual(judge_alike(now, late, style, (first, second)), 0)


if __name__ == "__main__":
    unittest.main()
