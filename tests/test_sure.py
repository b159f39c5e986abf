import unittest

import brute
from keptacross.books import Book
from keptacross.errors import BadPage, BadWant, Foreign, NoSource, TooMany, Unsettled
from keptacross.roads import Road
from keptacross.sourcetexts import SourceTexts
from keptacross.styles import Style
from keptacross.sure import Sure
from keptacross.telling import told_by
from keptacross.terms import Term
from keptacross.tongues import Tongue
from keptacross.wants import Words, wanted
from test_keeping_able import letters
from test_outlooks import counter
from test_telling_sources import NO_PAGES, wants_within
from test_wants_known import made


class SureOrNot(unittest.TestCase):
    def setUp(self):
        self.road = Road(letters((("x",), ("y",)), (("y",),), (("z",),)))
        self.style = Style.free(("a", "b", "c"))

    def check_pair(self, road, page, want, style, sure):
        self.assertFalse(sure)
        self.assertIsNone(sure.row)
        one, other = sure.pair
        texts = SourceTexts(road, page, style)
        self.assertIn(one, texts)
        self.assertIn(other, texts)
        self.assertNotEqual(wanted(want, one), wanted(want, other))
        self.assertIsInstance(one, tuple)

    def test_sure(self):
        for page, want, row in [(("x", "z"), Words(("a", "b", "c")), ("a", "c")), (["x", "z"], Words(["b"]), ()),
                                ((), Words(("a",)), ()), (("y", "z", "y"), Words(("c",)), ("c",)),
                                (("y", "z"), Road(letters((("n",),), (("n",),), (("m",),))), ("n", "m"))]:
            sure = Sure(self.road, page, want, self.style)
            self.assertEqual((bool(sure), sure.row, sure.pair), (True, row, None))

    def test_not_sure(self):
        for page, want in [(("z", "y"), Words(("a",))), (("z", "y"), self.road), (["y"], Words(("a", "b"))),
                           (("y", "z", "y", "y", "x"), Words(("b",)))]:
            self.check_pair(self.road, tuple(page), want, self.style, Sure(self.road, page, want, self.style))

    def test_unlike_at_the_end_alone(self):
        terms = (Term("l", ("a", "c"), (("m",),)), Term("s", ("a",), (("n",),)))
        want = Road(Book(Tongue(("a", "b", "c")), terms))
        self.check_pair(self.road, ("y",), want, self.style, Sure(self.road, ("y",), want, self.style))

    def test_endless_sources(self):
        road = Road(letters(((),), (("x",),)))
        style = Style.free(("a", "b"))
        self.assertEqual(Sure(road, ("x", "x"), Words(("b",)), style).row, ("b", "b"))
        self.check_pair(road, ("x", "x"), Words(("a",)), style, Sure(road, ("x", "x"), Words(("a",)), style))
        self.assertEqual(Sure(road, ("x", "x"), Road(letters(((),), (("n",),))), style).row, ("n", "n"))

    def test_against_plain_searches(self):
        sure_ones = others = 0
        for seed in range(260):
            road, want, style = made(seed)
            reading = brute.readings(style, road.picks, 3)[-1 - seed % 4:][0]
            page = brute.page(road, reading)
            if seed % 5 == 0:
                page = page[1:] + page[:1]
            try:
                sure = Sure(road, page, want, style)
            except NoSource as error:
                self.assertIs(error.page, page)
                self.assertEqual(wants_within(road, want, page, style, 6), set())
                continue
            except TooMany:
                self.assertRaises(TooMany, told_by, road, page, want, style)
                continue
            if sure:
                sure_ones += 1
                self.assertIsNone(sure.pair)
                self.assertEqual(wants_within(road, want, page, style, 7), {sure.row})
                self.assertEqual(told_by(road, page, want, style), sure.row)
            else:
                others += 1
                self.assertRaises(Unsettled, told_by, road, page, want, style)
                self.check_pair(road, page, want, style, sure)
        self.assertGreater(sure_ones, 50)
        self.assertGreater(others, 20)

    def test_just_600_nodes_and_more(self):
        style = Style.free(("a",))
        self.assertEqual(Sure(Road(counter(600)), (), Words(()), style).row, ())
        self.assertRaises(NoSource, Sure, Road(counter(600)), ("x",), Words(()), style)
        self.check_pair(Road(counter(600)), (), Words(("a",)), style,
                        Sure(Road(counter(600)), (), Words(("a",)), style))
        self.assertEqual(Sure(Road(counter(8)), (), Road(counter(75)), style).row, ())
        for road, want in [(counter(601), Words(("a",))), (counter(8), Road(counter(77))), (counter(601), Words(()))]:
            for page in ((), ("x",)):
                with self.assertRaises(TooMany) as caught:
                    Sure(Road(road), page, want, style)
                self.assertEqual(caught.exception.word, "node")

    def test_errors(self):
        style = Style.free(("a", "p", "q"))
        one, other = Road(counter(601)), Road(Book(Tongue(("a", "p"))))
        for page, number in NO_PAGES:
            with self.assertRaises(BadPage) as caught:
                Sure(one, page, None, style)
            self.assertEqual(caught.exception.number, number)
        for want in (None, (), "a", counter(3)):
            with self.assertRaises(BadWant) as caught:
                Sure(one, ("x",), want, style)
            self.assertIs(caught.exception.want, want)
        for road, want, word in [(one, other, "p"), (other, one, "q"), (one, Words(("z",)), "p"),
                                 (Road(Book(Tongue(("a", "p", "q")))), other, "q")]:
            with self.assertRaises(Foreign) as caught:
                Sure(road, ("x",), want, style)
            self.assertEqual(caught.exception.word, word)


if __name__ == "__main__":
    unittest.main()
