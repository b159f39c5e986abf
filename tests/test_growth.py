import unittest

import brute
import plain
from keptacross.books import Book
from keptacross.errors import Foreign, TooMany
from keptacross.growth import Growth, judge_heights
from keptacross.outlooks import Outlook
from keptacross.roads import Road
from keptacross.styles import Style
from keptacross.terms import Term
from keptacross.tongues import Tongue
from test_outlooks import counter


def two_and_none():
    """A book that says two words for each a, and nothing for b."""
    return Book(Tongue(("a", "b", "c")), (Term("t", ("a",), (("x", "y"), ())), Term("s", ("b",), ((),))))


def judged_plainly(road, style, rate, heights):
    outlook = Outlook(road, style)
    if not isinstance(heights, (tuple, list)) or len(heights) != len(outlook):
        return -1
    if any(type(height) is not int for height in heights) or heights[0] < 0:
        return -1
    for number, height in enumerate(heights):
        if any(heights[ahead] < height + rate[1] * len(said) - rate[0] for _, _, said, ahead in outlook.follow(number)):
            return number
    return None


def comes_again(outlook):
    """Whether some state can be come to again from itself."""
    for number in range(len(outlook)):
        there, waiting = set(), [number]
        while waiting:
            ahead = {step[3] for step in outlook.follow(waiting.pop())} - there
            there |= ahead
            waiting += ahead
        if number in there:
            return True
    return False


def tokens_on(road, style, growth):
    """The tokens and the words of the ring."""
    outlook = Outlook(road, style)
    number, reading = growth.ring
    state, tokens = outlook[number], 0
    for word, pick in reading:
        said, standing = road.hear(state[1], word, pick)
        state = (dict(style.let(state[0]))[word], standing)
        tokens += len(said)
    return state == outlook[number], tokens, len(reading)


class Growths(unittest.TestCase):
    def test_by_hand(self):
        growth = Growth(Road(two_and_none()), Style.free(("a", "b")))
        self.assertEqual((growth.rate, growth.heights, growth.peak), ((2, 1), (0,), 0))
        self.assertEqual(growth.ring, (0, (("a", 0),)))
        growth = Growth(Road(two_and_none()), Style(((("a", 1),), (("b", 0), ("c", 0))), (0,)))
        self.assertEqual((growth.rate, growth.heights, growth.peak), ((3, 2), (0, 1), 0))
        growth = Growth(Road(two_and_none()), Style(((("a", 1),), (("b", 0), ("c", 0))), (1,)))
        self.assertEqual((growth.rate, growth.heights, growth.peak), ((3, 2), (0, 1), 1))

    def test_no_state_comes_again(self):
        style = Style(((("a", 1), ("c", 2)), (("a", 2),), ()), (2,))
        growth = Growth(Road(two_and_none()), style)
        self.assertEqual((growth.rate, growth.heights, growth.peak, growth.ring), ((0, 1), (0, 2, 4), 4, None))
        empty = Growth(Road(two_and_none()), Style(((),), (0,)))
        self.assertEqual((empty.rate, empty.heights, empty.peak, empty.ring), ((0, 1), (0,), 0, None))

    def test_rings_on_which_nothing_is_said(self):
        style = Style(((("a", 1),), (("b", 1),)), (1,))
        growth = Growth(Road(two_and_none()), style)
        self.assertEqual((growth.rate, growth.heights, growth.peak), ((0, 1), (0, 2), 2))
        self.assertEqual(growth.ring, (1, (("b", 0),)))

    def test_lowest_terms(self):
        book = Book(Tongue(("a", "b", "c", "d")), (Term("t", ("a",), (("x",) * 2,)), Term("s", ("b",), ((),)),
                                                  Term("u", ("c",), (("x",) * 2,)), Term("v", ("d",), ((),))))
        style = Style(((("a", 1),), (("b", 2),), (("c", 3),), (("d", 4),), (("b", 5),), (("b", 0),)), (0,))
        growth = Growth(Road(book), style)
        self.assertEqual((growth.rate, growth.heights, growth.peak), ((2, 3), (0, 4, 2, 6, 4, 2), 0))

    def test_what_is_held_is_said_at_the_end(self):
        book = Book(Tongue(("a", "b")), (Term("t", ("a", "b"), ((),)), Term("s", ("a",), (("x",) * 6,))))
        style = Style(((("a", 1),), (("b", 0),)), (0, 1))
        growth = Growth(Road(book), style)
        self.assertEqual((growth.rate, growth.heights, growth.peak), ((0, 1), (0, 0), 6))

    def test_a_ring_of_300_states(self):
        style = Style.free(("a",))
        growth = Growth(Road(counter(300)), style)
        self.assertEqual((growth.rate, growth.heights, growth.peak), ((0, 1), (0,) * 300, 0))
        self.assertEqual(len(growth.ring[1]), 300)
        book = counter(100)
        book = Book(Tongue(("a", "b")), book.terms + (Term("s", ("b",), (("x", "y"),)),), turns=book.turns)
        style = Style(((("a", 1),), (("a", 2),), (("b", 0),)), (0,))
        growth = Growth(Road(book), style)
        self.assertEqual(growth.rate, (2, 3))
        self.assertEqual(tokens_on(Road(book), style, growth)[0], True)

    def test_against_all_short_readings(self):
        rings = 0
        for seed in range(150):
            road = brute.some_road(seed, many=2 + seed % 2)
            style = brute.some_style(seed, road.books[0].tongue.words)
            growth = brute.asked(lambda: Growth(road, style))
            if growth is None:
                continue
            p, q = growth.rate
            self.assertIsNone(judge_heights(road, style, growth.rate, growth.heights))
            self.assertEqual(growth.heights[0], 0)
            outlook = Outlook(road, style)
            for reading in brute.readings(style, road.picks, 4):
                self.assertLessEqual(q * len(brute.page(road, reading)) - p * len(reading), growth.peak)
            if growth.ring is None:
                self.assertEqual((p, q), (0, 1))
                self.assertFalse(comes_again(outlook))
                continue
            rings += 1
            back, tokens, words = tokens_on(road, style, growth)
            self.assertTrue(back and words > 0)
            self.assertEqual(tokens * q, p * words)
        self.assertGreater(rings, 50)

    def test_heights_are_reached(self):
        for seed in range(80):
            road = brute.some_road(seed, many=2, terms=2, books=1)
            style = brute.some_style(seed, road.books[0].tongue.words)
            outlook = brute.asked(lambda: Outlook(road, style))
            if outlook is None or len(outlook) > 7:
                continue
            growth = Growth(road, style)
            p, q = growth.rate
            level, best = {(0, 0)}, {}
            for words in range(len(outlook) + 1):
                for number, tokens in level:
                    best[number] = max(best.get(number, -99), q * tokens - p * words)
                level = {(ahead, tokens + len(said)) for number, tokens in level
                         for _, _, said, ahead in outlook.follow(number)}
            self.assertEqual(growth.heights, tuple(best[number] for number in range(len(outlook))))
            peaks = [best[n] + q * len(outlook.ending(n)) for n in best if outlook.ending(n) is not None]
            self.assertEqual(growth.peak, max(peaks))

    def test_equal(self):
        one = Growth(Road(two_and_none()), Style.free(("a", "b")))
        other = Growth(Road(two_and_none()), Style.free(("a",)))
        self.assertEqual(one, other)
        self.assertNotEqual(one, Growth(Road(two_and_none()), Style.free(("b",))))
        low = Growth(Road(two_and_none()), Style(((("a", 1),), (("b", 0), ("c", 0))), (0,)))
        high = Growth(Road(two_and_none()), Style(((("a", 1),), (("b", 0), ("c", 0))), (1,)))
        self.assertNotEqual(low, high)
        turned = Growth(Road(two_and_none()), Style(((("b", 1), ("c", 1)), (("a", 0),)), (0,)))
        self.assertEqual((turned.rate, turned.peak, turned.heights), (low.rate, low.peak, (0, -1)))
        self.assertNotEqual(low, turned)
        self.assertIs(one == one.rate, False)


class Heights(unittest.TestCase):
    def test_spoilt_heights(self):
        road = Road(two_and_none())
        style = Style(((("a", 1),), (("b", 0), ("c", 0))), (0,))
        good = Growth(road, style).heights
        self.assertIsNone(judge_heights(road, style, (3, 2), good))
        self.assertIsNone(judge_heights(road, style, [3, 2], list(good)))
        self.assertIsNone(judge_heights(road, style, (3, 2), (5, 6)))
        self.assertIsNone(judge_heights(road, style, (9, 1), (10 ** 30, 10 ** 30)))
        for heights, number in [((0, 0), 0), ((0, 2), 1), ((-1, 0), -1), ((0,), -1), ((0, 1, 1), -1), ((), -1),
                                (None, -1), ("01", -1), ((0, True), -1), ((False, 1), -1), ((0, "1"), -1), ((0, 1.0), -1)]:
            self.assertEqual(judge_heights(road, style, (3, 2), heights), number, heights)
        self.assertEqual(judge_heights(road, style, (1, 1), good), 1)
        self.assertEqual(judge_heights(road, style, (0, 1), (0, 10 ** 39)), 1)

    def test_one_too_low(self):
        wrong = 0
        for seed in range(80):
            road = brute.some_road(seed)
            style = brute.some_style(seed, road.books[0].tongue.words)
            growth = brute.asked(lambda: Growth(road, style))
            if growth is None or len(growth.heights) > 30:
                continue
            for place, height in enumerate(growth.heights):
                for other in (height - 1, height + 1):
                    heights = growth.heights[:place] + (other,) + growth.heights[place + 1:]
                    told = judge_heights(road, style, growth.rate, heights)
                    self.assertEqual(told, judged_plainly(road, style, growth.rate, heights))
                    wrong += told is not None
        self.assertGreater(wrong, 100)

    def test_errors(self):
        style = Style.free(("a", "p"))
        for ask in (lambda: Growth(Road(counter(301)), style),
                    lambda: judge_heights(Road(counter(301)), style, (1, 1), None)):
            with self.assertRaises(Foreign) as caught:
                ask()
            self.assertEqual(caught.exception.word, "p")
        for ask in (lambda: Growth(Road(counter(301)), Style.free(("a",))),
                    lambda: judge_heights(Road(counter(301)), Style.free(("a",)), (1, 1), None)):
            with self.assertRaises(TooMany) as caught:
                ask()
            self.assertEqual(caught.exception.word, "standing")


if __name__ == "__main__":
    unittest.main()
