import unittest

import brute
import plain
from keptacross.books import Book
from keptacross.carrying import BEGINNING
from keptacross.errors import BadLot, BadText, BadWant, Foreign, TooMany
from keptacross.known import Known
from keptacross.knownlook import judge_known
from keptacross.roads import Road
from keptacross.styles import Style
from keptacross.terms import Term
from keptacross.tongues import Tongue
from keptacross.wordmaps import WordMap
from keptacross.wants import Words, is_want, wanted
from test_alike import NOTHING, is_owed
from test_keeping_able import is_room, letters
from test_outlooks import counter

BEGUN = (BEGINNING,)
END = ((), (), NOTHING)


def words_of(reading):
    return tuple(word for word, _ in reading)


def wanted_plainly(want, reading):
    if isinstance(want, Words):
        return tuple(word for word, _ in reading if word in want.lot)
    return brute.page(want, [(word, 0) for word, _ in reading])


def first_row(road, want):
    side = (0, road.beginning, want.beginning)
    return side, side, NOTHING


def moves(road, want, style, row):
    """All moves from a row: what is wanted of the left and the right one, and the row behind; None as owed if they part."""
    found = []
    for place in (0, 1):
        side = row[place]
        if row[2][place] or side == ():
            continue
        steps = []
        for word, leads in style.let(side[0]):
            due, wanting = want.hear(side[2], word)
            for pick in range(road.picks):
                said, standing = road.hear(side[1], word, pick)
                steps.append((said, due, (leads, standing, wanting)))
        if style.is_end(side[0]):
            steps.append((road.finish(side[1]), want.finish(side[2]), ()))
        for said, due, behind in steps:
            both = [row[0], row[1]]
            both[place] = behind
            rows, dues = [(), ()], [(), ()]
            rows[place], dues[place] = said, due
            owed = brute.strip(row[2][0] + rows[0], row[2][1] + rows[1])
            if owed is not None:
                found.append((dues, (both[0], both[1], owed)))
    return found


def right(road, want, style, table):
    """Judges a table as [30] tells, plainly."""
    def is_side(thing):
        return thing == () and isinstance(thing, tuple) or (
            isinstance(thing, tuple) and len(thing) == 3 and is_room(thing[0], style)
            and isinstance(thing[1], tuple) and isinstance(thing[2], tuple))

    def form(row):
        return (isinstance(row, tuple) and len(row) == 4 and is_side(row[0]) and is_side(row[1]) and is_owed(row[2])
                and (row[3] is None or is_owed(row[3])))

    if not isinstance(table, (tuple, list)) or not table:
        return -1
    rows = [brute.as_tuples(row) if form(brute.as_tuples(row)) else None for row in table]
    if rows[0] is None or rows[0][:3] != first_row(road, want) or rows[0][3] not in (None, NOTHING):
        return -1
    for number, row in enumerate(rows):
        if row is None or row[:3] == END and row[3] != NOTHING:
            return number
        for dues, behind in moves(road, want, style, row):
            told = [other[3] for other in rows if other is not None and other[:3] == behind]
            if not told:
                return number
            due = None if row[3] is None else brute.strip(row[3][0] + dues[0], row[3][1] + dues[1])
            if told[0] is not None and told[0] != due:
                return number
    return None


def reached(road, want, style):
    """All rows that can be come to, and those of them that are live."""
    rows = [first_row(road, want)]
    there = set(rows)
    behind = {}
    for row in rows:
        for _, other in moves(road, want, style, row):
            behind.setdefault(other, []).append(row)
            if other not in there:
                there.add(other)
                rows.append(other)
    live, waiting = {END}, [END]
    while waiting:
        fresh = set(behind.get(waiting.pop(), ())) - live
        live |= fresh
        waiting += fresh
    return rows, live


def two_rings(many, other):
    """A road and a style: so many silent sides that are come to again and again, then so many others, then two."""
    one, two = counter(many).turns[0][1], counter(other).turns[0][1]
    turns = (("k", one), ("l", WordMap(tuple(("z" + word, "z" + image) for word, image in two.pairs))))
    terms = [Term("a", ("a",), ((),), turn="k"), Term("b", ("b",), (("x",),)), Term("c", ("c",), ((),), turn="l"),
             Term("d", ("d",), (("y",),)), Term("e", ("e",), ((),))]
    rooms = ((("a", 0), ("b", 1)), (("c", 1), ("d", 2)), (("e", 3),), ())
    return Road(Book(Tongue(tuple("abcde")), terms, turns=turns)), Style(rooms, (3,))


def made(seed):
    """A road, a want and a style."""
    road = brute.some_road(seed, terms=3)
    words = road.books[0].tongue.words
    kind = seed % 3
    if kind == 0:
        want = Words(words)
    elif kind == 1:
        want = Words(words[:1])
    else:
        want = brute.some_road(seed + 77, terms=2)
        words = [word for word in words if word in want.books[0].tongue.words]
    return road, want, brute.some_style(seed, words)


class Wants(unittest.TestCase):
    def test_words(self):
        want = Words(["a", "c"])
        self.assertEqual((want.lot, len(want), list(want), want.beginning), (("a", "c"), 2, ["a", "c"], ()))
        self.assertEqual([thing in want for thing in ("a", "b", "c", None, 1)], [True, False, True, False, False])
        self.assertEqual(want, Words(("a", "c")))
        self.assertNotEqual(want, Words(("a",)))
        self.assertIs(want == ("a", "c"), False)
        self.assertEqual(want.hear((), "a"), (("a",), ()))
        self.assertEqual(want.hear((), "b", 2), ((), ()))
        self.assertEqual(want.finish(()), ())
        self.assertEqual(len(Words(())), 0)

    def test_bad_lots(self):
        for lot in [None, "a", ("b", "a"), ("a", "a"), ("a", "*b"), ("",), (1,), {"a": 1}, ("a", True), ["_"]]:
            with self.assertRaises(BadLot) as caught:
                Words(lot)
            self.assertIs(caught.exception.lot, lot)

    def test_is_want(self):
        book = plain.cats()
        self.assertEqual([is_want(thing) for thing in (Words(()), Road(book), book, (), "a", None, {}, 3)],
                         [True, True, False, False, False, False, False, False])

    def test_wanted(self):
        self.assertEqual(wanted(Words(("a", "z")), ["z", "b", "a", "a", "other"]), ("z", "a", "a"))
        self.assertEqual(wanted(Words(("a",)), ("a",) * 90), ("a",) * 90)
        road = Road(plain.cats())
        self.assertEqual(wanted(road, "the cat sees big cat".split()), ("les", "chats", "voit", "big", "chat"))
        for text, number in [(None, -1), ("cat", -1), (("cat",) * 61, -1), (("cat", "dog"), 1), ((1,), 0)]:
            with self.assertRaises(BadText) as caught:
                wanted(road, text)
            self.assertEqual(caught.exception.number, number)
        for want in (None, (), ("a",), plain.cats(), "a"):
            with self.assertRaises(BadWant) as caught:
                wanted(want, None)
            self.assertIs(caught.exception.want, want)

    def test_wanted_against_the_plain_telling(self):
        for seed in range(60):
            want = brute.some_road(seed)
            reading = plain.some_reading(seed, want.books[0], 7)
            self.assertEqual(wanted(want, words_of(reading)), wanted_plainly(want, reading))


class Knowing(unittest.TestCase):
    def test_known_words(self):
        road = Road(letters((("x",),), (("y",), ("z",))))
        known = Known(road, Words(("a", "b")), Style.free(("a", "b")))
        self.assertEqual((bool(known), known.pair, len(known)), (True, None, len(known.table)))
        self.assertEqual(list(known), list(known.table))
        side = (0, BEGUN, ())
        self.assertEqual(known.table[0], (side, side, NOTHING, NOTHING))
        self.assertIn((side, side, (("y",), ()), (("b",), ())), known.table)
        self.assertIn((*END, NOTHING), known.table)
        self.assertIn(((), side, ((), ("x",)), None), known.table)
        self.assertIn(((), side, NOTHING, NOTHING), known.table)

    def test_unknown_words(self):
        road = Road(letters((("x",), ("y",)), (("y",),), (("z",),)))
        known = Known(road, Words(("a",)), Style.free(("a", "b", "c")))
        self.assertEqual((bool(known), known.table, len(known), list(known)), (False, None, 0, []))
        self.assertEqual(sorted(known.pair), [(("a", 1),), (("b", 0),)])
        self.assertTrue(Known(road, Words(("c",)), Style.free(("a", "b", "c"))))
        self.assertTrue(Known(road, Words(()), Style.free(("a", "b", "c"))))
        self.assertTrue(Known(road, Words(("a", "c")), Style.free(("a", "c"))))

    def test_words_that_say_nothing(self):
        road = Road(letters(((),), (("x",),)))
        known = Known(road, Words(("a", "b")), Style.free(("a", "b")))
        self.assertEqual(sorted(known.pair), [(), (("a", 0),)])
        self.assertTrue(Known(road, Words(("b",)), Style.free(("a", "b"))))

    def test_the_order_of_words_counts(self):
        road = Road(letters((("x",),), (("x",),)))
        self.assertEqual(sorted(Known(road, Words(("a",)), Style.free(("a", "b"))).pair), [(("a", 0),), (("b", 0),)])
        style = Style(((("a", 1), ("b", 2)), (("b", 3),), (("a", 3),), ()), (3,))
        self.assertTrue(Known(road, Words(("a",)), style))
        self.assertEqual(sorted(Known(road, Words(("a", "b")), style).pair),
                         [(("a", 0), ("b", 0)), (("b", 0), ("a", 0))])

    def test_wants_that_part_on_the_way(self):
        # Behind aa and b the pages are the same so far, and the wants part; then only to c they can go on.
        road = Road(letters((("x",),), (("x", "x"),), (("y",),)))
        style = Style(((("a", 1), ("b", 2)), (("a", 2),), (("c", 3),), ()), (3,))
        known = Known(road, Words(("a", "b")), style)
        self.assertEqual(sorted(known.pair), [(("a", 0), ("a", 0), ("c", 0)), (("b", 0), ("c", 0))])
        # To a dead row they may part: behind a and b unlike things have to be said.
        style = Style(((("a", 1), ("b", 2)), (("c", 3),), (("d", 3),), ()), (3,))
        apart = Road(letters((("x",),), (("x",),), (("y",),), (("z",),)))
        known = Known(apart, Words(("a", "b")), style)
        self.assertTrue(known)
        parted = ((1, BEGUN, ()), (2, BEGUN, ()), NOTHING, None)
        self.assertIn(parted, known.table)
        self.assertIsNone(judge_known(apart, Words(("a", "b")), style, known.table))

    def test_a_road_as_a_want(self):
        book = letters((("x",), ("y",)), (("y",),))
        road = Road(book)
        self.assertEqual(sorted(Known(road, road, Style.free(("a", "b"))).pair), [(("a", 1),), (("b", 0),)])
        self.assertTrue(Known(road, road, Style.free(("a",))) is not None)
        self.assertTrue(Known(road, Road(letters((("n",),), (("n",),))), Style.free(("a", "b"))))
        noted = Road(letters((("x", "*a"), ("y", "*a")), (("y",),)))
        self.assertTrue(Known(noted, road, Style.free(("a", "b"))))

    def test_what_is_wanted_at_the_end(self):
        held = Road(Book(Tongue(("a", "b")), (Term("l", ("a", "b"), (("z",),)), Term("s", ("a",), (("w",),)))))
        road = Road(letters((("x",),), (("x",),)))
        style = Style(((("a", 1), ("b", 1)), ()), (1,))
        self.assertEqual(sorted(Known(road, held, style).pair), [(("a", 0),), (("b", 0),)])

    def test_against_a_plain_search(self):
        known_ones = unknown = 0
        for seed in range(240):
            road, want, style = made(seed)
            known = brute.asked(lambda: Known(road, want, style))
            if known is None:
                continue
            length = 3 if road.picks == 3 else 4
            told = {}
            least = None
            for reading in brute.readings(style, road.picks, length):
                page, row = brute.page(road, reading), wanted_plainly(want, reading)
                seen = told.setdefault(page, {})
                seen.setdefault(row, len(reading))
                if len(seen) > 1:
                    words = len(reading) + min(words for other, words in seen.items() if other != row)
                    least = words if least is None else min(least, words)
            if known:
                known_ones += 1
                self.assertIsNone(least)
                self.assertEqual((known.pair, bool(known)), (None, True))
                rows, live = reached(road, want, style) if len(known) < 60 else (None, None)
                if rows:
                    self.assertEqual(sorted(map(repr, rows)), sorted(repr(row[:3]) for row in known.table))
                    self.assertEqual({row for row in rows if row in live},
                                     {row[:3] for row in known.table if row[3] is not None})
                    self.assertIsNone(right(road, want, style, known.table))
                self.assertIsNone(judge_known(road, want, style, known.table))
                continue
            unknown += 1
            left, right_one = known.pair
            self.assertTrue(style.reads(words_of(left)) and style.reads(words_of(right_one)))
            self.assertEqual(brute.page(road, left), brute.page(road, right_one))
            self.assertNotEqual(wanted_plainly(want, left), wanted_plainly(want, right_one))
            self.assertTrue(all(pick < road.picks for reading in known.pair for _, pick in reading))
            words = len(left) + len(right_one)
            self.assertTrue(least is None or words <= least)
            if words <= length + 1 or max(len(left), len(right_one)) <= length:
                self.assertEqual(words, least)
        self.assertGreater(known_ones, 40)
        self.assertGreater(unknown, 40)

    def test_just_300_sides_and_more(self):
        style = Style.free(("a",))
        silent = Words(())
        with self.assertRaises(TooMany) as caught:
            Known(Road(counter(301)), silent, style)
        self.assertEqual(caught.exception.word, "standing")
        with self.assertRaises(TooMany) as caught:
            Known(Road(counter(7)), Road(counter(43)), style)
        self.assertEqual(caught.exception.word, "standing")
        # 300 sides are gone along, but there are too many pairs of them.
        with self.assertRaises(TooMany) as caught:
            Known(Road(counter(300)), silent, style)
        self.assertEqual(caught.exception.word, "pair")

    def test_just_2000_rows_and_more(self):
        # With a ring of n sides that say nothing there are n + 1 left and right sides, the ended one among them.
        self.assertEqual(len(Known(Road(counter(43)), Words(()), Style.free(("a",)))), 44 ** 2)
        with self.assertRaises(TooMany) as caught:
            Known(Road(counter(44)), Words(()), Style.free(("a",)))
        self.assertEqual(caught.exception.word, "pair")
        # Two rings one behind the other: n * n + 2 * n rows, m * m + 2 * m rows, and nine more.
        for many, other, rows in [(42, 11, 2000), (36, 24, 2001)]:
            road, style = two_rings(many, other)
            self.assertEqual(len(reached(road, Words(()), style)[0]), rows)
            if rows == 2000:
                self.assertEqual(len(Known(road, Words(()), style)), 2000)
            else:
                self.assertRaises(TooMany, Known, road, Words(()), style)

    def test_errors(self):
        style = Style.free(("a", "p", "q"))
        one, other = Road(counter(301)), Road(Book(Tongue(("a", "p"))))
        for ask in (Known, lambda *args: judge_known(*args, None)):
            for want in (None, (), "a", counter(3)):
                with self.assertRaises(BadWant) as caught:
                    ask(one, want, style)
                self.assertIs(caught.exception.want, want)
            for road, want, word in [(one, other, "p"), (other, one, "q"), (one, Words(("z",)), "p"),
                                     (Road(Book(Tongue(("a", "p", "q")))), other, "q")]:
                with self.assertRaises(Foreign) as caught:
                    ask(road, want, style)
                self.assertEqual(caught.exception.word, word)


class Judging(unittest.TestCase):
    def test_spoilt_tables(self):
        judged = 0
        for seed in range(50):
            road, want, style = made(seed)
            known = brute.asked(lambda: Known(road, want, style))
            if not known or len(known) > 16:
                continue
            tables = [known.table, known.table[:1] + known.table[:0:-1]]
            tables += [known.table[:k] + (row[:3] + (None,),) + known.table[k + 1:] for k, row in enumerate(known.table)]
            for table in tables:
                self.assertEqual(judge_known(road, want, style, table), right(road, want, style, table))
            others = [None, NOTHING, (("x",), ()), ((), ("*n",)), (("x",), ("x",)), (("_",), ()), ("x", ()), ((),)]
            for table in self.spoilt(known.table, seed, others):
                judged += 1
                self.assertEqual(judge_known(road, want, style, table), right(road, want, style, table), table)
        self.assertGreater(judged, 1000)

    def spoilt(self, table, seed, others):
        for thing in brute.spoilt(table, seed, others=others):
            # A side is spoilt by hand: its standings stay standings.
            yield thing
        for k, row in enumerate(table):
            for place in (0, 1):
                if row[place] == ():
                    continue
                room, standing, wanting = row[place]
                for side in [(True, standing, wanting), (9, standing, wanting), (-1, standing, wanting),
                             (room, standing), (room, standing, wanting, ()), (room, None, wanting),
                             (room, standing, None), (room, standing, "x"), (room, 5, 5), [room, standing, wanting],
                             (room + 1, standing, wanting), "x", None]:
                    sides = [row[0], row[1]]
                    sides[place] = side
                    yield table[:k] + ((sides[0], sides[1]) + row[2:],) + table[k + 1:]

    def test_by_hand(self):
        road, want, style = Road(letters((("x",),))), Words(("a",)), Style.free(("a",))
        table = Known(road, want, style).table
        first = table[0]
        self.assertIsNone(judge_known(road, want, style, table))
        self.assertIsNone(judge_known(road, want, style, brute.as_lists(table)))
        self.assertEqual(judge_known(road, want, style, table[1:] + table[:1]), -1)
        self.assertEqual(judge_known(road, want, style, (first[:3] + (None,),) + table[1:]), 0)
        self.assertEqual(judge_known(road, want, style, (first[:3] + ((("a",), ()),),) + table[1:]), -1)
        self.assertEqual(judge_known(road, want, style, (first[:3],) + table[1:]), -1)
        self.assertEqual(judge_known(road, want, style, (first,)), 0)
        end = (*END, NOTHING)
        place = table.index(end)
        spoilt = table[:place] + ((*END, None),) + table[place + 1:]
        self.assertEqual(judge_known(road, want, style, spoilt), place)
        self.assertEqual(judge_known(road, want, style, table + ((*END, None),)), len(table))
        self.assertIsNone(judge_known(road, want, style, table + (end,)))
        parted = ((), (), (("x",), ()), None)
        self.assertIsNone(judge_known(road, want, style, table + (parted,)))
        self.assertIsNone(judge_known(road, want, style, table + (parted[:3] + (((), ("q",)),),)))

    def test_the_first_of_rows_that_begin_alike_counts(self):
        road, want, style = Road(letters((("x",),))), Words(("a",)), Style.free(("a",))
        table = Known(road, want, style).table
        for k, row in enumerate(table[1:], start=1):
            for due in (NOTHING, None, (("a",), ()), ((), ("a",))):
                for spoilt in (table[:k] + (row[:3] + (due,),) + table[k:], table + (row[:3] + (due,),)):
                    self.assertEqual(judge_known(road, want, style, spoilt), right(road, want, style, spoilt))


if __name__ == "__main__":
    unittest.main()
