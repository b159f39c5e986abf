"""The inputs at the bounds that the document names are answered in seconds."""

import time
import unittest

from keptacross.able import Able
from keptacross.alike import Alike
from keptacross.archives import Archive, tried_within
from keptacross.atonce import AtOnce, least_sight
from keptacross.begun import classes
from keptacross.books import Book
from keptacross.booktext import read_book, write_book
from keptacross.carrying import carried
from keptacross.commuting import all_commute
from keptacross.detours import leading_back, lookings
from keptacross.errors import TooMany, Unsettled
from keptacross.fulls import least_fulls
from keptacross.growth import Growth
from keptacross.handover import THINGS, by_hands, papers
from keptacross.journeys import Journeys
from keptacross.keeping import Keeping
from keptacross.known import Known
from keptacross.knownlook import judge_known
from keptacross.needless import lean, needless
from keptacross.notes import Notes
from keptacross.outlooks import Outlook
from keptacross.questions import Questions
from keptacross.renewals import Renewals
from keptacross.roads import Road
from keptacross.rounds import spare_books
from keptacross.rules import Rules
from keptacross.scopes import same_scopes
from keptacross.seams import least_lots
from keptacross.shelves import Shelf
from keptacross.sources import Sources
from keptacross.sourcetexts import SourceTexts
from keptacross.styles import Style
from keptacross.sure import Sure
from keptacross.telling import told_by
from keptacross.terms import Term
from keptacross.together import left_out
from keptacross.tongues import Tongue
from keptacross.turnback import ring, spare, undone
from keptacross.turners import Turners, judge_turners
from keptacross.turnwords import gathered, led, surely_gathered
from keptacross.wants import Words
from keptacross.wordmaps import WordMap
from keptacross.works import turned_chapters
from test_begun import wide_outlook
from test_outlooks import counter, first_ways
from test_wants_known import two_rings
from test_webs import four_hundred

WORDS = tuple("abcdefgh")
LONG = [chr(97 + k // 26) + chr(97 + k % 26) for k in range(600)]


def wide_book(states):
    """A book with all that a book can have, whose turn goes through so many maps."""
    ring_map = WordMap.of(tuple(zip(LONG[:states], LONG[1:states] + LONG[:1])))
    turns = (("k", WordMap()), ("l", WordMap()), ("m", WordMap()), ("r", ring_map))
    ways = (("*a",) * 6, ("*b",) * 6, ("*c",) * 6)
    terms = [Term("ta", ("a",), ways, turn="r")]
    terms += [Term("t" + word, (word, "_", word), (("*a", "_") + ("*b",) * 4,) * 3) for word in WORDS[1:]]
    return Book(Tongue(WORDS), terms, turns=turns)


def growing_book():
    """A book that says six words for each."""
    terms = [Term("t" + word, (word,), (WORDS[:6],) * 3) for word in WORDS]
    return Book(Tongue(WORDS), terms)


def ringing_book(states):
    """A book that is silent for a, whose turn then goes through so many maps, and says six words for each other one."""
    ring = counter(states)
    ways = (WORDS[:6], WORDS[1:7], WORDS[2:])
    return Book(Tongue(WORDS), ring.terms + tuple(Term("t" + word + "x", (word,), ways) for word in WORDS[1:]),
                turns=ring.turns)


class Speed(unittest.TestCase):
    def setUp(self):
        self.begun = time.perf_counter()

    def tearDown(self):
        self.assertLess(time.perf_counter() - self.begun, 20)

    def test_an_outlook_of_three_books_with_300_states(self):
        style = Style(((("a", 0),),), (0,))
        still = Book(Tongue(WORDS), [Term("t" + word, ("a", "_", word), (("_",),)) for word in WORDS])
        outlook = Outlook(Road(wide_book(300), still, still), style)
        self.assertEqual(len(outlook), 300)
        self.assertEqual(len(outlook.way(299)), 299)

    def test_an_outlook_with_too_many_states(self):
        style = Style(tuple(tuple((word, (room + 1) % 6) for word in WORDS) for room in range(6)), (5,))
        with self.assertRaises(TooMany):
            Outlook(Road(wide_book(600), growing_book(), growing_book()), style)

    def test_an_outlook_with_each_pick(self):
        style = Style(tuple(tuple((word, (room + 1) % 6) for word in WORDS) for room in range(6)), (5,))
        book = Book(Tongue(WORDS), [Term("t" + word, (word, word), (("x",), (), ("y",))) for word in WORDS])
        outlook = Outlook(Road(book, growing_book(), growing_book()), style)
        self.assertEqual(sum(len(outlook.follow(n)) for n in range(len(outlook))), 24 * len(outlook))

    def test_the_longest_page(self):
        reading = tuple((WORDS[k % 8], k % 3) for k in range(60))
        self.assertEqual(len(carried(growing_book(), reading)), 360)
        self.assertEqual(len(Road(growing_book(), growing_book(), growing_book())(reading)), 60 * 6 ** 3)

    def test_turners_of_many_words_with_too_many_maps(self):
        maps = [WordMap.of(tuple(zip(LONG, LONG[k:] + LONG[:k]))) for k in (1, 7, 11, 13)]
        with self.assertRaises(TooMany):
            Turners(tuple(zip("klmn", maps)))

    def test_turners_with_300_maps_of_300_words(self):
        words = LONG[:300]
        maps = [WordMap.of(tuple(zip(words, words[k:] + words[:k]))) for k in (1, 7, 11, 13)]
        turns = tuple(zip("klmn", maps))
        turners = Turners(turns)
        self.assertEqual(len(turners), 300)
        self.assertIsNone(judge_turners(turns, turners.table))
        self.assertEqual(spare(turners), ("k", "l", "m", "n"))
        self.assertEqual(ring(turners, ("k",) * 2000), (0, 3))
        self.assertIsNone(gathered(turners, words))
        self.assertIsNone(surely_gathered(turners, words))
        self.assertIsNotNone(undone(turners, ("k", "l") * 1000, words))
        self.assertEqual(led(turners, words[0], words[299]), turners.table[turners.place_of(
            WordMap.of(tuple(zip(words, words[299:] + words[:299]))))][1])

    def test_growth_and_keeping_of_300_states(self):
        style = Style.free(WORDS)
        road = Road(ringing_book(300), growing_book(), growing_book())
        self.assertEqual(Growth(road, style).rate, (216, 1))
        self.assertEqual(len(Keeping(road, Rules((("z",),)), Style.free(("a",))).table), 300)
        self.assertEqual(len(Able(road, Rules((("z",),)), Style.free(("a",))).table), 300)

    def test_able_with_many_tips(self):
        ways = [((WORDS[k],), (WORDS[(k + 1) % 8],), (WORDS[(k + 3) % 8],)) for k in range(8)]
        split = Book(Tongue(WORDS), [Term("t" + word, (word,), ways[k]) for k, word in enumerate(WORDS)])
        used = Book(Tongue(WORDS), [Term("t" + word, (word,), ((word,),), first=("*n", word)) for word in WORDS])
        with self.assertRaises(TooMany):
            Able(Road(split, used, used), Rules((("z",),)), Style.free(WORDS))

    def test_a_hand_at_once_with_1000_positions(self):
        road = Road(ringing_book(1000))
        game = AtOnce(road, Rules((("z",),)), Style.free(("a",)))
        self.assertEqual(len(game.table), 1000)
        self.assertTrue(all(game.pick_for(position) == 0 for position, _ in game.table))
        with self.assertRaises(TooMany):
            AtOnce(Road(ringing_book(40), growing_book(), growing_book()), Rules((("z",),)), Style.free(WORDS), sight=2)
        self.assertIsNone(least_sight(Road(growing_book(), growing_book()), Rules((("b", "c"),)), Style.free(WORDS)))

    def test_roads_of_three_books_with_1000_pairs(self):
        style = Style.free(WORDS)
        first = Road(ringing_book(1000), growing_book(), growing_book())
        second = Road(ringing_book(125), growing_book(), growing_book())
        self.assertEqual(len(Alike(first, second, style)), 1000)
        self.assertEqual(len(Alike(first, first, style)), 1000)

    def test_lean_books_with_1000_pairs(self):
        book = wide_outlook(turning=False)[0].road.books[0]
        style = Style.free(book.tongue.words)
        self.assertEqual((needless(book, style), len(lean(book, style))), (book.names, 0))
        self.assertEqual(len(same_scopes(book, style, "ta")), 11)
        ring = ringing_book(1000)
        self.assertEqual(lean(ring, Style.free(WORDS)), ring)

    def test_classes(self):
        self.assertEqual(len(set(classes(Outlook(Road(first_ways(8)), Style.free(WORDS))))), 256)
        self.assertEqual(len(set(classes(Outlook(Road(counter(300)), Style.free(("a",)))))), 1)
        outlook = Outlook(Road(ringing_book(300)), Style.free(WORDS))
        self.assertEqual(len(set(classes(outlook))), 1)

    def test_2000_rows_and_16_lots(self):
        book = Book(Tongue(WORDS), [Term("t" + word, (word,), ((), ("x",), ("y",)), first=()) for word in WORDS[:4]])
        style = Style.free(WORDS[:4])
        for want in (Words(()), Words(WORDS[:2]), Road(growing_book())):
            self.assertEqual(len(Notes(book, want, style).table), 16)
        road, style = two_rings(42, 11)
        known = Known(road, Words(()), style)
        self.assertEqual(len(known), 2000)
        self.assertIsNone(judge_known(road, Words(()), style, known.table))

    def test_pages_of_60_tokens_and_600_nodes(self):
        style = Style.free(WORDS[:4])
        book = Book(Tongue(WORDS), [Term("t" + word, (word,), (("x",), ("y",), ("x", "y"))) for word in WORDS[:4]])
        page = ("x", "y") * 30
        self.assertEqual(len(Sources(Road(book), page, style)), 61)
        self.assertEqual(told_by(Road(book), page, Words(()), style), ())
        with self.assertRaises(Unsettled):
            told_by(Road(book), page, Words(("a",)), style)
        with self.assertRaises(TooMany):
            told_by(Road(ringing_book(601)), (), Road(growing_book(), growing_book()), Style.free(WORDS))

    def test_sources_far_apart_and_in_very_many_lots(self):
        ring = WordMap.of(tuple(zip(LONG[:599], LONG[1:599] + LONG[:1])))
        book = Book(Tongue(WORDS), (Term("t", ("a",), ((),), turn="k"), Term("u", ("b",), ((LONG[0],),))),
                    turns=(("k", ring),))
        texts = SourceTexts(Road(book), LONG[:1], Style(((("a", 0), ("b", 1)), ()), (1,)))
        self.assertEqual([len(texts[k]) for k in (0, 1, 100, 200)], [1, 600, 59901, 119801])
        ways = ((), ("x",), ("x", "x"))
        book = Book(Tongue(WORDS), [Term("t" + word, (word,), ways[k % 2:k % 2 + 2]) for k, word in enumerate(WORDS)])
        with self.assertRaises(TooMany):
            SourceTexts(Road(book), ("x",) * 60, Style.free(WORDS))
        texts = SourceTexts(Road(book), ("x",) * 20, Style.free(WORDS))
        self.assertEqual((len(texts[200]), len(next(texts.upto(20)))), (10, 10))

    def test_long_rows_that_are_wanted(self):
        # A turn that is another map each time, up to the 590th: so many silent nodes, each word of which is wanted a lot.
        shift = WordMap.of(tuple(zip(LONG[:589], LONG[1:590])))
        book = Book(Tongue(WORDS), [Term("t" + word, (word,), ((), (), ()), turn="k") for word in WORDS],
                    turns=(("k", shift),))
        sure = Sure(Road(book), (), Road(growing_book(), growing_book(), growing_book()), Style.free(WORDS))
        self.assertEqual([len(text) for text in sure.pair], [589, 590])
        same = Road(Book(Tongue(WORDS), [Term("t" + word, (word,), (("x",) * 6,)) for word in WORDS]))
        with self.assertRaises(Unsettled):
            told_by(Road(book), (), same, Style.free(WORDS))

    def test_twelve_texts_of_ten_words(self):
        style = Style(((("a", 0), ("b", 1), ("c", 2)), (("a", 1),), ()), (0, 1, 2))
        asked = Questions(Road(Book(Tongue(WORDS), [Term("t" + word, (word,), (("x",),)) for word in WORDS])),
                          ("x",) * 10, Words(WORDS), style)
        self.assertEqual((len(asked.texts), asked.count), (12, 10))
        self.assertEqual(asked.lots, (tuple(range(10)),))

    def test_webs_with_400_rows(self):
        web = four_hundred(0)
        self.assertEqual((len(Journeys(web, "h")), spare_books(web)), (400, ()))
        self.assertEqual(len(left_out(web, "h")), 5)

    def test_shelves_of_60_books(self):
        terms = [Term(name, (word,), ((name,), ("x" + name,)), first=("f",)) for name, word in zip("abcd", "efgh")]
        menu = tuple(("rise", name) for name in "abcd") + (("drop", "d"), ("scope", "c", ("plain",)))
        shelf = Shelf(Book(Tongue(WORDS), terms), menu)
        self.assertEqual(len(shelf), 60)
        style = Style.free(WORDS[:3] + WORDS[4:6])
        self.assertIsNone(all_commute(shelf, style))
        renewals = Renewals(shelf, Style.free(WORDS[4:6]))
        self.assertTrue(renewals)
        self.assertEqual(len(leading_back(shelf, Style.free(WORDS[:3]))), 60)
        found = {lookings(renewals, n, m) for n in range(60) for m in range(60)}
        self.assertEqual({pair and pair[0] for pair in found}, {0, None})

    def test_seams_with_1000_pairs(self):
        self.assertEqual(least_lots(ringing_book(31), Style.free(WORDS)), ((),))
        self.assertEqual(least_lots(ringing_book(1000), Style.free(WORDS), headings=True), ((),))
        self.assertEqual(len(papers(first_ways(8), Style.free(WORDS), THINGS)), 255)

    def test_works_of_360_words(self):
        book = Book(Tongue(WORDS), [Term("t" + word, (word,), ((word,),), first=("f", word)) for word in WORDS])
        work = tuple(tuple((WORDS[k * 7 % 8], k % 3) for k in range(60)) for _ in range(6))
        links = tuple((one, other) for one in range(6) for other in range(6))
        self.assertEqual(least_fulls(book, work, links, (0,)), ((0,),))
        self.assertEqual(least_fulls(book, work, links, tuple(range(6))), (tuple(range(6)),))
        self.assertEqual(len(by_hands(book, work, ())), 360 + 6 * 8)
        self.assertEqual(turned_chapters(book, growing_book(), work), tuple(range(6)))

    def test_archives_with_many_pages(self):
        archive = Archive(Style.free(WORDS), Book(Tongue(WORDS), [Term("t" + word, (word,), ((word, "x"),)) for word in WORDS]))
        for k in range(200):
            archive.enter(tuple((WORDS[k % 8], 0) for _ in range(30)))
        archive.amend(("say", "x", "y"))
        for k in range(200):
            archive.renew(k)
        self.assertEqual(archive.stale, ())
        lots = tuple((("say", one, other),) for one, other in zip("ypqrstuv", "pqrstuvw"))
        self.assertEqual(len(set(tried_within(archive, lots, 7))), 8)

    def test_long_lines(self):
        maps = WordMap.of(tuple(zip(LONG, LONG[1:] + LONG[:1])))
        book = Book(Tongue(WORDS), wide_book(10).terms, turns=tuple((name, maps) for name in "klmr"))
        self.assertEqual(read_book(write_book(book)), book)


if __name__ == "__main__":
    unittest.main()
