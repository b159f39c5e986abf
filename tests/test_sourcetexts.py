import itertools
import unittest

import brute
from keptacross.books import Book
from keptacross.errors import BadPage, Foreign, NoText, TooMany
from keptacross.roads import Road
from keptacross.sourcetexts import SourceTexts
from keptacross.styles import Style
from keptacross.terms import Term
from keptacross.tongues import Tongue
from keptacross.wordmaps import WordMap
from test_keeping_able import letters
from test_outlooks import counter
from test_telling_sources import NO_PAGES


def sources_plainly(road, page, style, length):
    """The sources of a page with at most so many words, in order: all readings whose page it can still be."""
    found = set()
    level = {((), 0, road.beginning, 0)}
    for _ in range(length + 1):
        longer = set()
        for text, room, standing, place in level:
            if style.is_end(room) and road.finish(standing) == page[place:]:
                found.add(text)
            for word, leads in style.let(room):
                for pick in range(road.picks):
                    said, behind = road.hear(standing, word, pick)
                    if page[place:place + len(said)] == said:
                        longer.add((text + (word,), leads, behind, place + len(said)))
        level = longer
    return sorted(found, key=lambda text: (len(text), text))


def widening(words):
    """A road and a page with 61 nodes and very many lots; the first words only lead on."""
    book = Book(Tongue(("a", "b", "c")), (Term("ta", ("a",), ((), ("x",))), Term("tb", ("b",), (("x",), ("x", "x"))),
                                          Term("tc", ("c",), ((),))))
    rooms = tuple((("c", k + 1),) for k in range(words)) + ((("a", words), ("b", words)),)
    return Road(book), ("x",) * 46, Style(rooms, (words,))


class Numbered(unittest.TestCase):
    def test_by_hand(self):
        road = Road(letters((("x",), ("y",)), (("y",),), (("x", "y"),)))
        texts = SourceTexts(road, ["x", "y"], Style.free(("a", "b", "c")))
        self.assertEqual((texts.endless, texts.count), (False, 3))
        self.assertEqual([texts[k] for k in range(3)], [("c",), ("a", "a"), ("a", "b")])
        self.assertEqual([list(texts.upto(k)) for k in range(4)],
                         [[], [("c",)], [("c",), ("a", "a"), ("a", "b")], [("c",), ("a", "a"), ("a", "b")]])

    def test_no_numbers(self):
        texts = SourceTexts(Road(letters((("x",),), (("x",),))), ("x",), Style.free(("a", "b")))
        for n in (-1, 2, 200, True, False, None, "0", "", (0,), [], 10 ** 39):
            with self.assertRaises(NoText) as caught:
                texts[n]
            self.assertIs(caught.exception.number, n)
        self.assertEqual((texts[0], texts[1]), (("a",), ("b",)))

    def test_no_iteration(self):
        texts = SourceTexts(Road(letters((("x",),))), ("x",), Style.free(("a",)))
        self.assertRaises(TypeError, iter, texts)

    def test_no_source(self):
        texts = SourceTexts(Road(letters((("x",),))), ("y",), Style.free(("a",)))
        self.assertEqual((texts.endless, texts.count, list(texts.upto(5))), (False, 0, []))
        self.assertNotIn((), texts)
        self.assertNotIn(("a",), texts)
        self.assertRaises(NoText, lambda: texts[0])
        empty = SourceTexts(Road(letters((("x",),))), (), Style.free(("a",)))
        self.assertEqual((empty.endless, empty.count, list(empty.upto(5)), empty[0]), (False, 1, [()], ()))

    def test_in(self):
        texts = SourceTexts(Road(letters((("x",), ()), (("y",),))), ("x", "y"), Style.free(("a", "b")))
        for text in [("a", "b"), ["a", "b"], ("a", "a", "a", "b"), ("a",) * 70 + ("b", "a")]:
            self.assertIn(text, texts)
        for text in [(), ("b", "a"), ("a", "b", "b"), ("z",), ("a", "z"), ("a", 1), (True,), ((),), ([],), "ab", None, 0]:
            self.assertNotIn(text, texts)
        self.assertIs(("a", "b") in texts, True)

    def test_equal_texts_with_other_picks_are_one(self):
        texts = SourceTexts(Road(letters((("x",), ("x", "x"), ()))), ("x",) * 3, Style.free(("a",)))
        self.assertEqual((texts.endless, texts.count), (True, None))
        self.assertEqual([texts[k] for k in range(3)], [("a",) * 2, ("a",) * 3, ("a",) * 4])

    def test_dozens_of_digits(self):
        book = letters(*[(("x",),)] * 8)
        texts = SourceTexts(Road(book), ("x",) * 60, Style.free(book.tongue.words))
        self.assertEqual((texts.endless, texts.count), (False, 8 ** 60))
        last = book.tongue.words[0:1] * 57
        for n in (0, 1, 7, 8, 63, 64, 200):
            self.assertEqual(texts[n], last + tuple(book.tongue.words[k] for k in (n // 64, n // 8 % 8, n % 8)))
        self.assertEqual(list(texts.upto(20)), [])
        self.assertEqual(next(texts.upto(60)), ("a",) * 60)

    def test_endless_far_apart(self):
        # One source only on each round of a ring of 599 states, the first one behind none.
        words = [chr(97 + k // 26) + chr(97 + k % 26) for k in range(599)]
        ring = WordMap.of(tuple(zip(words, words[1:] + words[:1])))
        book = Book(Tongue(("a", "b")), (Term("t", ("a",), ((),), turn="k"), Term("u", ("b",), ((words[0],),))),
                    turns=(("k", ring),))
        texts = SourceTexts(Road(book), words[:1], Style(((("a", 0), ("b", 1)), ()), (1,)))
        self.assertEqual((texts.endless, texts[0], texts[200]), (True, ("b",), ("a",) * 200 * 599 + ("b",)))

    def test_against_a_plain_listing(self):
        counted = endless = several = 0
        for seed in range(240):
            road = brute.some_road(seed)
            style = brute.some_style(seed, road.books[0].tongue.words)
            reading = brute.readings(style, road.picks, 3)[-1 - seed % 3:][0]
            page = brute.page(road, reading)
            texts = brute.asked(lambda: SourceTexts(road, page, style))
            if texts is None:
                continue
            listed = sources_plainly(road, page, style, 9)
            self.assertEqual(list(texts.upto(9)), listed)
            self.assertEqual([texts[k] for k in range(min(len(listed), 60))], listed[:60])
            for length in (0, 1, 3):
                self.assertEqual(list(texts.upto(length)), [text for text in listed if len(text) <= length])
            for text in itertools.islice(itertools.product(style.vocabulary, repeat=3), 20):
                self.assertEqual(text in texts, text in listed)
            if texts.endless:
                endless += 1
                self.assertIsNone(texts.count)
                texts[len(listed)]
            elif texts.count == len(listed):
                counted += 1
                with self.assertRaises(NoText):
                    texts[len(listed)]
            several += len(listed) > 3
        self.assertGreater(counted, 50)
        self.assertGreater(endless, 20)
        self.assertGreater(several, 40)

    def test_upto_while_another_one_is_gone_through(self):
        texts = SourceTexts(Road(letters((("x",), ()), (("x",), ()))), ("x",), Style.free(("a", "b")))
        listed = list(texts.upto(4))
        one, other = texts.upto(4), texts.upto(4)
        found = []
        for text in one:
            found.append((text, next(other)))
            self.assertIn(text, texts)
            texts[3]
        self.assertEqual(found, [(text, text) for text in listed])

    def test_upto_tells_as_soon_as_it_finds(self):
        book = letters(*[((), ("x",))] * 8)
        texts = SourceTexts(Road(book), ("x",) * 3, Style.free(book.tongue.words))
        told = texts.upto(20)
        self.assertEqual([next(told) for _ in range(9)], [("a", "a", word) for word in "abcdefgh"] + [("a", "b", "a")])

    def test_just_600_lots_and_more(self):
        texts = SourceTexts(*widening(1))
        self.assertEqual((texts.endless, texts.count), (True, None))
        self.assertEqual(texts[0], ("c",) + ("b",) * 23)
        with self.assertRaises(TooMany) as caught:
            SourceTexts(*widening(2))
        self.assertEqual(caught.exception.word, "lot")

    def test_just_600_nodes_and_more(self):
        self.assertEqual(SourceTexts(Road(counter(600)), (), Style.free(("a",)))[200], ("a",) * 200)
        for page in ((), ("x",)):
            with self.assertRaises(TooMany) as caught:
                SourceTexts(Road(counter(601)), page, Style.free(("a",)))
            self.assertEqual(caught.exception.word, "node")

    def test_errors(self):
        for page, number in NO_PAGES:
            with self.assertRaises(BadPage) as caught:
                SourceTexts(Road(counter(601)), page, Style.free(("a", "p")))
            self.assertEqual(caught.exception.number, number)
        with self.assertRaises(Foreign) as caught:
            SourceTexts(Road(counter(601)), ("x",), Style.free(("a", "p", "q")))
        self.assertEqual(caught.exception.word, "p")

    def test_what_is_held_back(self):
        # A pattern of two words waits: the same text can be at several nodes.
        book = Book(Tongue(("a", "b")), (Term("l", ("a", "b"), (("x",),)), Term("s", ("a",), (("x",), ("y",)))),
                    turns=(("k", WordMap()),))
        texts = SourceTexts(Road(book), ("x",), Style.free(("a", "b")))
        self.assertEqual((texts.count, list(texts.upto(3))), (2, [("a",), ("a", "b")]))


if __name__ == "__main__":
    unittest.main()
