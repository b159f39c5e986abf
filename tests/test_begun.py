import unittest

import brute
import plain
from keptacross.alike import Alike
from keptacross.begun import Begun, classes
from keptacross.books import Book
from keptacross.carrying import BEGINNING
from keptacross.errors import NoState, TooMany, Unlike
from keptacross.outlooks import Outlook
from keptacross.roads import Road
from keptacross.styles import Style
from keptacross.terms import Term
from keptacross.tongues import Tongue
from keptacross.wordmaps import WordMap
from test_alike import NOTHING
from test_outlooks import counter


def said_on(outlook, number, length):
    """What is said from a state on, for all rows of at most so many words with picks that lead to an end."""
    found = {}
    level = {(): (number, ())}
    for _ in range(length + 1):
        for reading, (state, said) in level.items():
            if outlook.ending(state) is not None:
                found[reading] = said + outlook.ending(state)
        level = {reading + ((word, pick),): (ahead, said + told) for reading, (state, said) in level.items()
                 for word, pick, told, ahead in outlook.follow(state)}
    return found


class Beginnings(unittest.TestCase):
    def test_begun_alike_with_a_delay(self):
        # Behind q the word a says x, otherwise y: but only in the other chapter it can be told.
        book = Book(Tongue(("a", "h", "q"), headings=("h",), quote="q"),
                    (Term("t", ("a",), (("x",),), scope=("quoted",)), Term("s", ("q",), ((),))))
        outlook = Outlook(Road(book), Style(((("h", 1), ("q", 0)), (("a", 1), ("h", 1))), (1,)))
        begun = Begun(outlook, 0, 2)
        self.assertEqual((outlook[0][0], outlook[2][0]), (0, 0))
        self.assertEqual((bool(begun), begun.reading), (True, None))
        self.assertEqual(begun.table[0], (0, outlook[0][1], outlook[2][1], NOTHING))
        self.assertEqual(classes(outlook), (0, 1, 0))

    def test_unlike(self):
        book = Book(Tongue(("a", "q"), quote="q"), (Term("t", ("a",), (("x",), ("y",)), scope=("quoted",)),
                                                    Term("s", ("q",), ((),))))
        outlook = Outlook(Road(book), Style.free(("a", "q")))
        begun = Begun(outlook, 0, 1)
        self.assertEqual((begun.reading, begun.table, bool(begun)), ((("a", 0),), None, False))
        self.assertEqual(Begun(outlook, 1, 0).reading, (("a", 0),))
        self.assertEqual(classes(outlook), (0, 1))

    def test_something_held_is_not_nothing(self):
        book = Book(Tongue(("a", "b")), (Term("l", ("a", "b"), (("x",),)),))
        outlook = Outlook(Road(book), Style.free(("a", "b")))
        self.assertEqual(Begun(outlook, 0, 1).reading, ())
        self.assertEqual(classes(outlook), (0, 1))

    def test_what_is_held_can_be_owed(self):
        # Behind h the words come at once; ahead of it they wait: what is said in all is the same.
        book = Book(Tongue(("a", "b", "h"), headings=("h",)),
                    (Term("l", ("a", "a", "b"), (("a", "a", "b"),), scope=("in", "h")),))
        style = Style(((("a", 1), ("b", 0), ("h", 0)), (("a", 1), ("b", 0))), (0, 1))
        outlook = Outlook(Road(book), style)
        begun = Begun(outlook, 0, outlook.place_of((0, (("h", 0, (), (), (), ()),))))
        self.assertEqual((begun.reading, bool(begun)), (None, True))
        self.assertIn((("a",), ()), [row[3] for row in begun.table])

    def test_a_state_with_itself(self):
        outlook = Outlook(Road(plain.cats()), plain.free(plain.cats()))
        begun = Begun(outlook, 3, 3)
        self.assertTrue(begun)
        self.assertEqual(begun.table[0], (*outlook[3], outlook[3][1], NOTHING))

    def test_against_a_plain_search(self):
        same = unlike = 0
        for seed in range(120):
            road = brute.some_road(seed)
            style = brute.some_style(seed, road.books[0].tongue.words)
            outlook = brute.asked(lambda: Outlook(road, style))
            if outlook is None or len(outlook) > 20:
                continue
            said = [said_on(outlook, number, 3) for number in range(len(outlook))]
            for one in range(len(outlook)):
                for other in range(len(outlook)):
                    if outlook[one][0] != outlook[other][0]:
                        continue
                    begun = Begun(outlook, one, other)
                    apart = [reading for reading in said[one] if said[one][reading] != said[other][reading]]
                    least = min(apart, key=lambda reading: (len(reading), reading)) if apart else None
                    if begun:
                        same += one != other
                        self.assertIsNone(least)
                        self.assertEqual(begun.table[0], (*outlook[one], outlook[other][1], NOTHING))
                        self.closed(road, style, begun.table)
                    elif len(begun.reading) <= 3:
                        unlike += 1
                        self.assertEqual(begun.reading, least)
                    else:
                        self.assertIsNone(least)
        self.assertGreater(same, 40)
        self.assertGreater(unlike, 40)

    def closed(self, road, style, table):
        for room, one, other, owed in table:
            for word, leads in style.let(room):
                for pick in range(road.picks):
                    said, ahead = road.hear(one, word, pick)
                    told, behind = road.hear(other, word, pick)
                    self.assertIn((leads, ahead, behind, brute.strip(owed[0] + said, owed[1] + told)), table)
            if style.is_end(room):
                self.assertEqual(owed[0] + road.finish(one), owed[1] + road.finish(other))

    def test_the_beginning_with_itself_is_as_alike_roads(self):
        for seed in range(30):
            road = brute.some_road(seed)
            style = brute.some_style(seed, road.books[0].tongue.words)
            outlook = brute.asked(lambda: Outlook(road, style))
            if outlook is not None:
                self.assertEqual(Begun(outlook, 0, 0).table, Alike(road, road, style).table)

    def test_errors(self):
        style = Style(((("a", 1),), (("a", 0),)), (0,))
        outlook = Outlook(Road(Book(Tongue(("a",)))), style)
        for first, second, wrong in [(2, 5, 2), (-1, 5, -1), (0, 2, 2), (True, 0, True), (0, None, None), ("0", 0, "0")]:
            with self.assertRaises(NoState) as caught:
                Begun(outlook, first, second)
            self.assertIs(caught.exception.number, wrong)
        with self.assertRaises(Unlike) as caught:
            Begun(outlook, 0, 1)
        self.assertEqual(caught.exception.word, "rooms")

    def test_just_1000_pairs_and_more(self):
        outlook, other = wide_outlook(turning=False)
        self.assertEqual(len(outlook), 108)
        begun = Begun(outlook, 0, other)
        self.assertEqual((bool(begun), len(begun.table)), (True, 1000))
        outlook, other = wide_outlook(turning=True)
        self.assertLess(len(outlook), 300)
        with self.assertRaises(TooMany) as caught:
            Begun(outlook, 0, other)
        self.assertEqual(caught.exception.word, "pair")
        self.assertTrue(Begun(outlook, other, other))


def wide_outlook(turning):
    """An outlook with a pair of states from which 1000 pairs can come, or more, and the number of the other state.

    The words b, d and f let three terms be used, which are as good as kept words; q lets a fourth one be used.
    """
    pairs = [("a", "b"), ("c", "d"), ("e", "f")]
    terms = [Term("t" + word, (word,), ((word,),), scope=("behind", other), first=(word,)) for word, other in pairs]
    terms.append(Term("tx", ("x",), (("x",),), scope=("quoted",), first=("x",), turn="k" if turning else None))
    turns = (("k", WordMap((("y", "z"), ("z", "y")))),)
    book = Book(Tongue(tuple("abcdefqx"), quote="q"), terms, turns=turns)
    outlook = Outlook(Road(book), Style.free(book.tongue.words))
    return outlook, outlook.place_of((0, (("", 1, ("b", "d", "f"), (), (), ()),)))


class Classes(unittest.TestCase):
    def test_against_all_comparisons(self):
        several = 0
        for seed in range(150):
            road = brute.some_road(seed)
            style = brute.some_style(seed, road.books[0].tongue.words)
            outlook = brute.asked(lambda: Outlook(road, style))
            if outlook is None or len(outlook) > 25:
                continue
            told = classes(outlook)
            firsts = []
            for number in range(len(outlook)):
                same = [k for k, first in enumerate(firsts)
                        if outlook[first][0] == outlook[number][0] and Begun(outlook, first, number)]
                if not same:
                    firsts.append(number)
                self.assertEqual(told[number], same[0] if same else len(firsts) - 1)
            several += len(firsts) < len(outlook) and len(firsts) > 1
        self.assertGreater(several, 20)

    def test_a_counter_that_is_never_asked(self):
        outlook = Outlook(Road(counter(30)), Style.free(("a",)))
        self.assertEqual(classes(outlook), (0,) * 30)

    def test_a_counter_that_is_asked(self):
        ring = counter(7)
        word = ring.turns[0][1].pairs[0][0]
        book = Book(Tongue(("a", "b")), ring.terms + (Term("b", ("b",), ((word,),)),), turns=ring.turns)
        outlook = Outlook(Road(book), Style.free(("a", "b")))
        self.assertEqual(classes(outlook), tuple(range(7)))
        late = Style(((("a", 0), ("b", 1)), (("a", 1),)), (1,))
        outlook = Outlook(Road(book), late)
        rooms = [outlook[number][0] for number in range(len(outlook))]
        told = classes(outlook)
        self.assertEqual(len(set(told)), 8)
        self.assertEqual(len({told[number] for number, room in enumerate(rooms) if room == 1}), 1)

    def test_just_1000_pairs_and_more(self):
        outlook, _ = wide_outlook(turning=False)
        self.assertEqual(classes(outlook), (0,) * 108)
        outlook, _ = wide_outlook(turning=True)
        with self.assertRaises(TooMany) as caught:
            classes(outlook)
        self.assertEqual(caught.exception.word, "pair")


if __name__ == "__main__":
    unittest.main()
