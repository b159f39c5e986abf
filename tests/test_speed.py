"""The inputs at the bounds that the document names are answered in seconds."""

import time
import unittest

from keptacross.books import Book
from keptacross.booktext import read_book, write_book
from keptacross.carrying import carried
from keptacross.errors import TooMany
from keptacross.outlooks import Outlook
from keptacross.roads import Road
from keptacross.styles import Style
from keptacross.terms import Term
from keptacross.tongues import Tongue
from keptacross.turnback import ring, spare, undone
from keptacross.turners import Turners, judge_turners
from keptacross.turnwords import gathered, led, surely_gathered
from keptacross.wordmaps import WordMap

WORDS = tuple("abcdefgh")
LONG = [chr(97 + k // 26) + chr(97 + k % 26) for k in range(600)]


def wide_book(states):
    """A book with all that a book can have, whose turn goes through so many maps."""
    ring_map = WordMap.of(tuple(zip(LONG[:states], LONG[1:states] + LONG[:1])))
    turns = (("k", WordMap()), ("l", WordMap()), ("m", WordMap()), ("r", ring_map))
    ways = (("*a",) * 6, ("*b",) * 6, ("*c",) * 6)
    terms = [Term("ta", ("a",), ways, turn="r")]
    terms += [Term("t" + word, (word, "_", word), (("*a", "_") + ("*b",) * 4,) * 3) for word in WORDS[1:]]
    return Book(Tongue(WORDS), terms, turns=turns)


def growing_book():
    """A book that says six words for each."""
    terms = [Term("t" + word, (word,), (WORDS[:6],) * 3) for word in WORDS]
    return Book(Tongue(WORDS), terms)


class Speed(unittest.TestCase):
    def setUp(self):
        self.begun = time.perf_counter()

    def tearDown(self):
        self.assertLess(time.perf_counter() - self.begun, 20)

    def test_an_outlook_of_three_books_with_300_states(self):
        style = Style(((("a", 0),),), (0,))
        still = Book(Tongue(WORDS), [Term("t" + word, ("a", "_", word), (("_",),)) for word in WORDS])
        outlook = Outlook(Road(wide_book(300), still, still), style)
        self.assertEqual(len(outlook), 300)
        self.assertEqual(len(outlook.way(299)), 299)

    def test_an_outlook_with_too_many_states(self):
        style = Style(tuple(tuple((word, (room + 1) % 6) for word in WORDS) for room in range(6)), (5,))
        with self.assertRaises(TooMany):
            Outlook(Road(wide_book(600), growing_book(), growing_book()), style)

    def test_an_outlook_with_each_pick(self):
        style = Style(tuple(tuple((word, (room + 1) % 6) for word in WORDS) for room in range(6)), (5,))
        book = Book(Tongue(WORDS), [Term("t" + word, (word, word), (("x",), (), ("y",))) for word in WORDS])
        outlook = Outlook(Road(book, growing_book(), growing_book()), style)
        self.assertEqual(sum(len(outlook.follow(n)) for n in range(len(outlook))), 24 * len(outlook))

    def test_the_longest_page(self):
        reading = tuple((WORDS[k % 8], k % 3) for k in range(60))
        self.assertEqual(len(carried(growing_book(), reading)), 360)
        self.assertEqual(len(Road(growing_book(), growing_book(), growing_book())(reading)), 60 * 6 ** 3)

    def test_turners_of_many_words_with_too_many_maps(self):
        maps = [WordMap.of(tuple(zip(LONG, LONG[k:] + LONG[:k]))) for k in (1, 7, 11, 13)]
        with self.assertRaises(TooMany):
            Turners(tuple(zip("klmn", maps)))

    def test_turners_with_300_maps_of_300_words(self):
        words = LONG[:300]
        maps = [WordMap.of(tuple(zip(words, words[k:] + words[:k]))) for k in (1, 7, 11, 13)]
        turns = tuple(zip("klmn", maps))
        turners = Turners(turns)
        self.assertEqual(len(turners), 300)
        self.assertIsNone(judge_turners(turns, turners.table))
        self.assertEqual(spare(turners), ("k", "l", "m", "n"))
        self.assertEqual(ring(turners, ("k",) * 2000), (0, 3))
        self.assertIsNone(gathered(turners, words))
        self.assertIsNone(surely_gathered(turners, words))
        self.assertIsNotNone(undone(turners, ("k", "l") * 1000, words))
        self.assertEqual(led(turners, words[0], words[299]), turners.table[turners.place_of(
            WordMap.of(tuple(zip(words, words[299:] + words[:299]))))][1])

    def test_long_lines(self):
        maps = WordMap.of(tuple(zip(LONG, LONG[1:] + LONG[:1])))
        book = Book(Tongue(WORDS), wide_book(10).terms, turns=tuple((name, maps) for name in "klmr"))
        self.assertEqual(read_book(write_book(book)), book)


if __name__ == "__main__":
    unittest.main()
