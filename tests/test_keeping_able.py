import unittest

import brute
import plain
from keptacross.able import Able, judge_able
from keptacross.books import Book
from keptacross.carrying import BEGINNING
from keptacross.errors import Foreign, TooMany
from keptacross.keeping import Keeping, judge_keeping
from keptacross.outlooks import Outlook
from keptacross.roads import Road
from keptacross.rules import Rules
from keptacross.styles import Style
from keptacross.terms import Term
from keptacross.tongues import Tongue
from test_outlooks import counter
from test_rules import broken_plainly

BEGUN = (BEGINNING,)
START = (0, BEGUN, "")


def breaks(rules, last, said):
    """Whether a barred row ends in what is said."""
    row = ([last] if last else []) + list(said)
    skipped = len(row) - len(said)
    return any(tuple(row[end - len(barred):end]) == barred
               for barred in rules.rows for end in range(skipped + 1, len(row) + 1) if end >= len(barred))


def is_room(thing, style):
    return type(thing) is int and 0 <= thing < len(style)


def is_last(thing):
    return isinstance(thing, str) and (thing == "" or thing.strip("*").isalpha())


def triples_closed(road, rules, style, table):
    def form(row):
        return (isinstance(row, tuple) and len(row) == 3 and is_room(row[0], style) and isinstance(row[1], tuple)
                and is_last(row[2]))

    def good(row, rows):
        room, standing, last = row
        for word, leads in style.let(room):
            for pick in range(road.picks):
                said, behind = road.hear(standing, word, pick)
                if breaks(rules, last, said) or (leads, behind, said[-1] if said else last) not in rows:
                    return False
        return not style.is_end(room) or not breaks(rules, last, road.finish(standing))

    return brute.judge(table, form, [(0, road.beginning, "")], good)


def lots_closed(road, rules, style, table):
    def form(row):
        return (isinstance(row, tuple) and len(row) == 2 and is_room(row[0], style) and isinstance(row[1], tuple)
                and all(isinstance(tip, tuple) and len(tip) == 2 and isinstance(tip[0], tuple) and is_last(tip[1])
                        for tip in row[1]))

    def good(row, rows):
        room, tips = row
        if not tips:
            return False
        for word, leads in style.let(room):
            ahead = set()
            for standing, last in tips:
                for pick in range(road.picks):
                    said, behind = road.hear(standing, word, pick)
                    if not breaks(rules, last, said):
                        ahead.add((behind, said[-1] if said else last))
            if (leads, tuple(sorted(ahead))) not in rows:
                return False
        return not style.is_end(room) or any(not breaks(rules, last, road.finish(standing)) for standing, last in tips)

    return brute.judge(table, form, [(0, ((road.beginning, ""),))], good)


def letters(*rows):
    """A book that says these rows for its words a, b, ..; of several rows, one each for each pick."""
    words = tuple("abcdefgh"[:len(rows)])
    return Book(Tongue(words), [Term("t" + word, (word,), ways) for word, ways in zip(words, rows)])


class Keepings(unittest.TestCase):
    def test_across_words(self):
        book = letters((("x", "y"), ()), (("y", "x"),))
        style = Style.free(("a", "b"))
        keeping = Keeping(Road(book), Rules((("y", "y"),)), style)
        self.assertEqual((keeping.reading, keeping.table, bool(keeping)), ((("a", 0), ("b", 0)), None, False))
        keeping = Keeping(Road(book), Rules((("x", "x"),)), style)
        self.assertEqual(keeping.reading, (("b", 0), ("a", 0)))
        keeping = Keeping(Road(book), Rules((("x", "z"), ("z",))), style)
        self.assertEqual((keeping.reading, bool(keeping)), (None, True))
        self.assertEqual(keeping.table, (START, (0, (BEGINNING,), "y"), (0, (BEGINNING,), "x")))

    def test_one_token_is_broken_once(self):
        book = letters((("x",), ()), (("y",),))
        rules = Rules((("x",),))
        self.assertEqual(Keeping(Road(book), rules, Style.free(("a", "b"))).reading, (("a", 0),))
        standing = (0, (BEGINNING,), "x")
        self.assertIsNone(judge_keeping(Road(book), rules, Style.free(("b",)),
                                        (START, standing, (0, (BEGINNING,), "y"))))

    def test_notes_and_words_that_say_nothing(self):
        book = letters((("*n",),), (("x",),), ((),))
        self.assertEqual(Keeping(Road(book), Rules((("*n", "x"),)), Style.free(("a", "b", "c"))).reading,
                         (("a", 0), ("b", 0)))
        style = Style(((("a", 1),), (("c", 2),), (("b", 0),)), (0,))
        self.assertEqual(Keeping(Road(book), Rules((("*n", "x"),)), style).reading, (("a", 0), ("c", 0), ("b", 0)))

    def test_what_is_held_back_breaks_at_the_end(self):
        book = Book(Tongue(("a", "b")), (Term("t", ("a", "b"), (("y",),)), Term("s", ("a",), (("x",), ("z",)))))
        self.assertEqual(Keeping(Road(book), Rules((("z",),)), Style.free(("a", "b"))).reading, (("a", 1),))
        self.assertEqual(Keeping(Road(book), Rules((("y", "x"),)), Style.free(("a", "b"))).reading,
                         (("a", 0), ("b", 0), ("a", 0)))
        style = Style(((("a", 1),), (("b", 0),)), (0,))
        self.assertTrue(Keeping(Road(book), Rules((("z",),)), style))

    def test_the_reading_is_ended(self):
        book = letters((("x",), ("y",)), (("z",),))
        style = Style(((("a", 1),), (("a", 1), ("b", 2)), ()), (2,))
        self.assertEqual(Keeping(Road(book), Rules((("y",),)), style).reading, (("a", 1), ("b", 0)))

    def test_against_a_plain_search(self):
        kept = 0
        for seed in range(200):
            road = brute.some_road(seed)
            words = road.books[0].tongue.words
            style, rules = brute.some_style(seed, words), brute.some_rules(seed, words)
            keeping = brute.asked(lambda: Keeping(road, rules, style))
            if keeping is None:
                continue
            bad = next((reading for reading in brute.readings(style, road.picks, 3)
                        if broken_plainly(rules.rows, brute.page(road, reading)) is not None), None)
            if keeping.reading is None:
                kept += 1
                self.assertIsNone(bad)
                self.assertTrue(keeping)
                self.assertIsNone(judge_keeping(road, rules, style, keeping.table))
                self.assertEqual({triple[:2] for triple in keeping.table}, set(Outlook(road, style)))
            else:
                self.assertFalse(keeping)
                self.assertIsNone(keeping.table)
                if len(keeping.reading) <= 3:
                    self.assertEqual(keeping.reading, bad)
                else:
                    self.assertIsNone(bad)
                    self.assertTrue(style.reads([word for word, _ in keeping.reading]))
                    self.assertIsNotNone(rules.broken(brute.page(road, keeping.reading)))
        self.assertGreater(kept, 30)

    def test_just_300_triples_and_more(self):
        style, rules = Style.free(("a",)), Rules((("x",),))
        self.assertEqual(len(Keeping(Road(counter(300)), rules, style).table), 300)
        with self.assertRaises(TooMany) as caught:
            Keeping(Road(counter(301)), rules, style)
        self.assertEqual(caught.exception.word, "standing")
        ring = counter(149)
        book = Book(Tongue(("a", "b")), ring.terms + (Term("b", ("b",), (("*n",),)),), turns=ring.turns)
        barred = Rules((("*n",),))
        self.assertEqual(Keeping(Road(book), barred, Style.free(("a", "b"))).reading, (("b", 0),))
        ring = counter(151)
        book = Book(Tongue(("a", "b")), ring.terms + (Term("b", ("b",), (("*n",),)),), turns=ring.turns)
        with self.assertRaises(TooMany):
            Keeping(Road(book), barred, Style.free(("a", "b")))

    def test_foreign(self):
        for style in (Style.free(("a", "p")),):
            for ask in (lambda: Keeping(Road(counter(301)), Rules(()), style),
                        lambda: judge_keeping(Road(counter(301)), Rules(()), style, None),
                        lambda: Able(Road(counter(301)), Rules(()), style),
                        lambda: judge_able(Road(counter(301)), Rules(()), style, None)):
                with self.assertRaises(Foreign) as caught:
                    ask()
                self.assertEqual(caught.exception.word, "p")

    def test_spoilt_tables(self):
        judged = 0
        for seed in range(120):
            road = brute.some_road(seed)
            words = road.books[0].tongue.words
            style, rules = brute.some_style(seed, words), brute.some_rules(seed, words)
            keeping = brute.asked(lambda: Keeping(road, rules, style))
            if keeping is None or not keeping or len(keeping.table) > 8:
                continue
            for table in brute.spoilt(keeping.table, seed, tuples=(1,)):
                judged += 1
                self.assertEqual(judge_keeping(road, rules, style, table), triples_closed(road, rules, style, table),
                                 table)
        self.assertGreater(judged, 500)

    def test_judging_by_hand(self):
        road, style, rules = Road(letters((("x",),), (("y",),))), Style.free(("a", "b")), Rules((("z",),))
        triples = [(0, (BEGINNING,), last) for last in ("", "x", "y", "q", "*q")]
        self.assertIsNone(judge_keeping(road, rules, style, triples))
        self.assertIsNone(judge_keeping(road, rules, style, triples[::-1]))
        self.assertEqual(judge_keeping(road, rules, style, triples[1:]), -1)
        self.assertEqual(judge_keeping(road, rules, style, triples[:2]), 0)
        self.assertEqual(judge_keeping(road, Rules((("q", "y"),)), style, triples), 3)
        self.assertEqual(judge_keeping(road, rules, style, triples + [(0, (BEGINNING,), "_")]), 5)
        self.assertEqual(judge_keeping(road, rules, style, triples + [(False, (BEGINNING,), "")]), 5)


class Ables(unittest.TestCase):
    def test_some_hand_does(self):
        road = Road(letters((("x",), ("y",))))
        able = Able(road, Rules((("x", "x"), ("y", "y"))), Style.free(("a",)))
        first, both = (BEGINNING,), (((BEGINNING,), "x"), ((BEGINNING,), "y"))
        self.assertEqual((able.text, bool(able)), (None, True))
        self.assertEqual(able.table, ((0, ((first, ""),)), (0, both)))

    def test_no_hand_does(self):
        road = Road(letters((("x",), ("y",)), (("z",),)))
        rules = Rules((("x", "z"), ("y", "z")))
        able = Able(road, rules, Style.free(("a", "b")))
        self.assertEqual((able.text, able.table, bool(able)), (("a", "b"), None, False))
        style = Style(((("a", 1),), (("b", 2),), (("a", 2), ("b", 3)), ()), (3,))
        self.assertEqual(Able(road, rules, style).text, ("a", "b", "b"))

    def test_at_the_end(self):
        book = Book(Tongue(("a", "b")), (Term("t", ("a", "b"), (("y",),)), Term("s", ("a",), (("x",), ("z",)))))
        style = Style.free(("a", "b"))
        self.assertEqual(Able(Road(book), Rules((("x",), ("z",))), style).text, ("a",))
        self.assertTrue(Able(Road(book), Rules((("z",),)), style))

    def test_against_a_plain_search(self):
        able_ones = unable = 0
        for seed in range(200):
            road = brute.some_road(seed)
            words = road.books[0].tongue.words
            style, rules = brute.some_style(seed, words), brute.some_rules(seed, words)
            able = brute.asked(lambda: Able(road, rules, style))
            if able is None:
                continue
            good = {tuple(word for word, _ in reading) for reading in brute.readings(style, road.picks, 3)
                    if rules.broken(brute.page(road, reading)) is None}
            bad = next((text for text in brute.texts(style, 3) if text not in good), None)
            if able.text is None:
                able_ones += 1
                self.assertIsNone(bad)
                self.assertIsNone(judge_able(road, rules, style, able.table))
            elif len(able.text) <= 3:
                unable += 1
                self.assertEqual(able.text, bad)
            else:
                self.assertIsNone(bad)
            self.assertEqual((able.table is None, bool(able)), (able.text is not None, able.text is None))
        self.assertGreater(able_ones, 30)
        self.assertGreater(unable, 30)

    def test_just_300_lots_and_more(self):
        style, rules = Style.free(("a",)), Rules(())
        self.assertEqual(len(Able(Road(counter(300)), rules, style).table), 300)
        with self.assertRaises(TooMany) as caught:
            Able(Road(counter(301)), rules, style)
        self.assertEqual(caught.exception.word, "lot")

    def test_pairs_without_tips_count(self):
        book = counter(300)
        style = Style(((("a", 1),), (("a", 2),), (("a", 3),), ()), (0, 3))
        able = Able(Road(letters((("x",),))), Rules((("x",),)), style)
        self.assertEqual((able.text, able.table), (("a", "a", "a"), None))
        silent = Able(Road(book), Rules(()), style)
        self.assertEqual([room for room, _ in silent.table], [0, 1, 2, 3])

    def test_spoilt_tables(self):
        judged = 0
        for seed in range(160):
            road = brute.some_road(seed)
            words = road.books[0].tongue.words
            style, rules = brute.some_style(seed, words), brute.some_rules(seed, words)
            able = brute.asked(lambda: Able(road, rules, style))
            if able is None or not able or len(able.table) > 7:
                continue
            tips = able.table[-1][1]
            others = [tips[::-1], tips[1:], tips + tips, tips + ((road.beginning, "zz"),), (tips[0][:1],), (tips[0], 5)]
            for table in brute.spoilt(able.table, seed, others=others):
                judged += 1
                self.assertEqual(judge_able(road, rules, style, table), lots_closed(road, rules, style, table), table)
        self.assertGreater(judged, 500)

    def test_a_row_without_tips_is_wrong_wherever_it_leads(self):
        road, style = Road(letters((("x",),))), Style(((("a", 1),), (("a", 0),)), (0,))
        table = ((0, ((BEGUN, ""),)), (1, ((BEGUN, "x"),)), (0, ((BEGUN, "x"),)))
        self.assertIsNone(judge_able(road, Rules(()), style, table))
        self.assertEqual(judge_able(road, Rules(()), style, table + ((1, ()), (0, ()))), 3)

    def test_judging_by_hand(self):
        road, style = Road(letters((("x",), ("y",)))), Style.free(("a",))
        rules = Rules((("x", "x"), ("y", "y")))
        first, both = Able(road, rules, style).table
        self.assertIsNone(judge_able(road, rules, style, (both, first)))
        self.assertIsNone(judge_able(road, rules, style, (both, first, (0, both[1][::-1]))))
        self.assertEqual(judge_able(road, rules, style, (first, (0, both[1][::-1]))), 0)
        self.assertEqual(judge_able(road, rules, style, (first, both, (0, both[1][:1]))), 2)
        self.assertEqual(judge_able(road, rules, style, (first, both, (0, ()))), 2)
        for tip in [(5, "x"), (None, "x"), ("x", "x"), (both[1][0][0], None), both[1][0][0], both[1][0] + ("x",), "x"]:
            self.assertEqual(judge_able(road, rules, style, (first, both, (0, (tip,)))), 2)
        self.assertEqual(judge_able(road, rules, style, (both,)), -1)
        self.assertEqual(judge_able(road, rules, style, (first,)), 0)


if __name__ == "__main__":
    unittest.main()
