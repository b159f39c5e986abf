import itertools
import unittest

import plain
from keptacross.books import Book
from keptacross.carrying import BEGINNING
from keptacross.errors import AcrossError, Foreign, NoState, TooMany
from keptacross.outlooks import Outlook
from keptacross.roads import Road
from keptacross.styles import Style
from keptacross.terms import Term
from keptacross.tongues import Tongue
from keptacross.wordmaps import WordMap

LETTERS = "abcdefgh"


def first_ways(many):
    """A book whose standings are the lots of used names: 2 ** many of them."""
    return Book(Tongue(tuple(LETTERS)), [Term(name, (name,), (("x",),), first=("f",)) for name in LETTERS[:many]])


def prime_powers(many):
    """The powers of different primes whose product is this number."""
    powers, prime = [], 2
    while many > 1:
        power = 1
        while many % prime == 0:
            many, power = many // prime, power * prime
        powers += [power] if power > 1 else []
        prime += 1
    return powers


def counter(many):
    """A book with one word, of which the turn that waits goes through so many maps."""
    pairs = []
    for length in prime_powers(many):
        ring = [chr(97 + len(pairs) // 26 % 26) + chr(97 + (len(pairs) + k) // 26) + chr(97 + (len(pairs) + k) % 26)
                for k in range(length)]
        pairs += zip(ring, ring[1:] + ring[:1])
    return Book(Tongue(("a",)), (Term("t", ("a",), ((),), turn="k"),), turns=(("k", WordMap.of(pairs)),))


def gone_through(road, style):
    """The outlook, gone through as [9] tells it."""
    states = [(0, road.beginning)]
    ways = [()]
    follows = []
    for state in states:
        follow = []
        for word, room in sorted(style.let(state[0])):
            for pick in range(road.picks):
                said, standing = road.hear(state[1], word, pick)
                if (room, standing) not in states:
                    states.append((room, standing))
                    ways.append(ways[states.index(state)] + ((word, pick),))
                follow.append((word, pick, said, states.index((room, standing))))
        follows.append(tuple(follow))
    return states, ways, follows


class Outlooks(unittest.TestCase):
    def small(self):
        book = Book(Tongue(("a", "b")), (Term("t", ("a", "b"), (("x",), ("y",))),))
        style = Style(((("a", 0), ("b", 1)), ()), (0, 1))
        return Outlook(Road(book), style)

    def held(self, *picks):
        return (("", 0, (), (), (), tuple(("a", pick) for pick in picks)),)

    def test_states_in_the_order_in_which_they_are_found(self):
        outlook = self.small()
        begun = (BEGINNING,)
        states = [(0, begun), (0, self.held(0)), (0, self.held(1)), (1, begun)]
        self.assertEqual(list(outlook), states)
        self.assertEqual(len(outlook), 4)
        self.assertEqual([outlook[n] for n in range(4)], states)

    def test_follow(self):
        outlook = self.small()
        self.assertEqual(outlook.follow(0), (("a", 0, (), 1), ("a", 1, (), 2), ("b", 0, ("b",), 3),
                                             ("b", 1, ("b",), 3)))
        self.assertEqual(outlook.follow(2), (("a", 0, ("a",), 1), ("a", 1, ("a",), 2), ("b", 0, ("y",), 3),
                                             ("b", 1, ("y",), 3)))
        self.assertEqual(outlook.follow(3), ())

    def test_way(self):
        outlook = self.small()
        self.assertEqual([outlook.way(n) for n in range(4)], [(), (("a", 0),), (("a", 1),), (("b", 0),)])

    def test_ending(self):
        outlook = self.small()
        self.assertEqual([outlook.ending(n) for n in range(4)], [(), ("a",), ("a",), ()])
        book = Book(Tongue(("a", "b")), (Term("t", ("a", "b"), (("x",),)),))
        style = Style(((("a", 1),), (("b", 0),)), (0,))
        self.assertEqual([Outlook(Road(book), style).ending(n) for n in range(2)], [(), None])

    def test_place_of(self):
        outlook = self.small()
        for number, state in enumerate(outlook):
            self.assertEqual(outlook.place_of(state), number)
        self.assertEqual(outlook.place_of([0, [["", 0, [], [], [], [["a", 1]]]]]), 2)
        for state in [(1, self.held(0)), (2, (BEGINNING,)), (0, ()), (0, BEGINNING), (False, (BEGINNING,)),
                      (True, (BEGINNING,)), (0, (("", False, (), (), (), ()),)), (0, self.held(True)), (0,), (), 0,
                      None, "0", {}, (0, {}), (0.0, (BEGINNING,)), {0: 1}]:
            self.assertIsNone(outlook.place_of(state))

    def test_no_state(self):
        outlook = self.small()
        for number in (-1, 4, True, False, None, "0", (0,), [0], slice(1), 10 ** 39):
            for ask in (outlook.__getitem__, outlook.follow, outlook.way, outlook.ending):
                with self.assertRaises(NoState) as caught:
                    ask(number)
                self.assertIs(caught.exception.number, number)

    def test_attributes(self):
        road, style = Road(plain.cats()), plain.free(plain.cats())
        outlook = Outlook(road, style)
        self.assertEqual((outlook.road, outlook.style), (road, style))
        self.assertEqual((Outlook.MOST, outlook.MOST), (300, 300))

    def test_only_words_that_are_let_come(self):
        book = Book(Tongue(("a", "b")))
        style = Style(((("a", 1), ("b", 2)), (), ()), (2,))
        self.assertEqual(list(Outlook(Road(book), style)), [(0, (BEGINNING,)), (2, (BEGINNING,))])

    def test_a_style_of_the_empty_text(self):
        outlook = Outlook(Road(plain.cats()), Style(((),), (0,)))
        self.assertEqual((list(outlook), outlook.follow(0), outlook.ending(0)), ([(0, (BEGINNING,))], (), ()))

    def test_just_300_states_and_more(self):
        self.assertEqual(len(Outlook(Road(counter(300)), Style.free(("a",)))), 300)
        with self.assertRaises(TooMany) as caught:
            Outlook(Road(counter(301)), Style.free(("a",)))
        self.assertEqual(caught.exception.word, "standing")
        self.assertEqual(len(Outlook(Road(first_ways(8)), Style.free(tuple(LETTERS)))), 256)
        with self.assertRaises(TooMany):
            Outlook(Road(first_ways(8), first_ways(8)), Style((tuple((w, 1) for w in LETTERS),
                                                               tuple((w, 0) for w in LETTERS)), (0,)))

    def test_foreign(self):
        style = Style(((("a", 1), ("b", 2), ("z", 0)), (("y", 3),), (), ()), (0, 2))
        for words, word in [(("a", "z"), "b"), (("a", "b"), "z"), (("b", "z"), "z"), (("y",), "b")]:
            road = Road(Book(Tongue(words)), Book(Tongue(("b", "z"))))
            if set(style.vocabulary) <= set(words):
                Outlook(road, style)
                continue
            with self.assertRaises(Foreign) as caught:
                Outlook(road, style)
            self.assertEqual(caught.exception.word, word)

    def test_foreign_goes_ahead_of_too_many(self):
        style = Style((tuple((w, 0) for w in ("a", "b")),), (0,))
        with self.assertRaises(Foreign) as caught:
            Outlook(Road(counter(301)), style)
        self.assertEqual(caught.exception.word, "b")
        self.assertIsInstance(caught.exception, AcrossError)

    def test_words_that_stand_in_no_text_are_not_foreign(self):
        style = Style(((("a", 0), ("q", 1)), (), (("r", 0),)), (0,))
        self.assertEqual(len(Outlook(Road(Book(Tongue(("a",)))), style)), 1)

    def test_against_a_plain_search(self):
        for seed in range(60):
            books = [plain.some_book(seed + 500 * k, many=2 + seed % 2, terms=3) for k in range(1 + seed % 3)]
            words = books[0].tongue.words
            style = Style((tuple((word, k % 2) for k, word in enumerate(words)), ((words[0], 0), (words[1], 1))), (1,))
            road = Road(*books)
            try:
                outlook = Outlook(road, style)
            except TooMany:
                continue
            states, ways, follows = gone_through(road, style)
            self.assertEqual(list(outlook), states)
            for number, state in enumerate(states):
                self.assertEqual(outlook.way(number), ways[number])
                self.assertEqual(outlook.follow(number), follows[number])
                ending = road.finish(state[1]) if state[0] == 1 else None
                self.assertEqual(outlook.ending(number), ending)

    def test_ways_are_the_least_readings(self):
        for seed in range(25):
            book = plain.some_book(seed, many=2, terms=3)
            try:
                outlook = Outlook(Road(book), plain.free(book))
            except TooMany:
                continue
            least = {}
            steps = [(word, pick) for word in book.tongue.words for pick in range(book.picks)]
            for length in range(4):
                for reading in itertools.product(steps, repeat=length):
                    standing = (BEGINNING,)
                    for word, pick in reading:
                        standing = Road(book).hear(standing, word, pick)[1]
                    least.setdefault((0, standing), reading)
            for state, reading in least.items():
                self.assertEqual(outlook.way(outlook.place_of(state)), reading)


if __name__ == "__main__":
    unittest.main()
