import unittest

import brute
import plain
from keptacross.books import Book
from keptacross.carrying import plain_reading
from keptacross.errors import BadReading, BadWork, Unlike
from keptacross.terms import Term
from keptacross.tongues import Tongue
from keptacross.works import turned, turned_chapters

NO_READINGS = (None, "a", 5, {}, (("a", 0),) * 61, (("a",),), (("a", 3),), (("q", 0),), (("a", True),), ("a",), (("a", -1),),
               (("a", 0), None), [["a", "0"]])


def places_plainly(old, new, reading):
    """The places of the words whose pieces, by the plain telling, are not the same."""
    def of_words(book):
        return [piece for piece in plain.pieces(book, reading) for _ in range(piece[1])]

    return [k for k, (one, other) in enumerate(zip(of_words(old), of_words(new))) if one != other]


def two_books(seed):
    """Two books of the same tongue."""
    old, other = plain.some_book(seed), plain.some_book(seed + 7000)
    new = [term for k, term in enumerate(old.terms) if (seed >> k) % 3]
    if other.tongue == old.tongue:
        new = new + [term for term in other.terms if term.turn is None and term.name not in [one.name for one in new]][:8 - len(new)]
    return old, Book(old.tongue, new, turns=old.turns)


class Turned(unittest.TestCase):
    def setUp(self):
        self.tongue = Tongue(("a", "b", "c"))
        self.one = Term("one", ("a", "b"), (("x",),))
        self.two = Term("two", ("c",), (("y",), ("z",)))
        self.old = Book(self.tongue, (self.one, self.two))

    def new(self, *terms):
        return Book(self.tongue, terms)

    def test_by_hand(self):
        reading = plain_reading(("a", "b", "c", "a", "c"))
        self.assertEqual(turned(self.old, self.old, reading), ())
        # Another name, another way, another width; what is said alike with another name is turned, too.
        self.assertEqual(turned(self.old, self.new(self.one, Term("new", ("c",), (("y",), ("z",)))), reading), (2, 4))
        self.assertEqual(turned(self.old, self.new(Term("one", ("a", "b"), (("q",),)), self.two), reading), (0, 1))
        self.assertEqual(turned(self.old, self.new(self.two), reading), (0, 1))
        self.assertEqual(turned(self.old, self.new(self.one, self.two, Term("kept", ("a",), (("a",),))), reading), (3,))
        self.assertEqual(turned(self.old, self.new(self.one, Term("two", ("c",), (("y",), ("w",)))), reading), ())
        self.assertEqual(turned(self.old, self.new(self.one, Term("two", ("c",), (("y",), ("w",)))), [["c", 1], ["c", 0]]), (0,))
        self.assertEqual(turned(self.old, self.new(), ()), ())

    def test_chapters(self):
        new = self.new(self.two)
        # The first chapter ends within a piece: the work is carried in one go.
        work = (plain_reading(("c", "a")), plain_reading(("b", "c")), (), plain_reading(("c",)), plain_reading(("a",)))
        self.assertEqual(turned_chapters(self.old, new, work), (0, 1))
        self.assertEqual(turned_chapters(self.old, new, brute.as_lists(work)), (0, 1))
        self.assertEqual(turned_chapters(self.old, new, ((), (), plain_reading(("a", "b")))), (2,))
        self.assertEqual(turned_chapters(self.old, new, ((),)), ())
        long = (plain_reading(("c",) * 60),) * 5 + (plain_reading(("a", "b")),)
        self.assertEqual(turned_chapters(self.old, new, long), (5,))

    def test_against_a_plain_telling(self):
        some = 0
        for seed in range(200):
            old, new = two_books(seed)
            reading = plain.some_reading(seed, old, 12)
            places = places_plainly(old, new, reading)
            self.assertEqual(turned(old, new, reading), tuple(places))
            cuts = [0, seed % 5, seed % 5, 6 + seed % 3, 12]
            chapters = [reading[cuts[k]:cuts[k + 1]] for k in range(4)]
            found = [k for k in range(4) if any(cuts[k] <= place < cuts[k + 1] for place in places)]
            self.assertEqual(turned_chapters(old, new, chapters), tuple(found))
            some += 0 < len(found) < 3
        self.assertGreater(some, 40)

    def test_errors(self):
        other = Book(Tongue(("a", "b")))
        for ask in (lambda: turned(self.old, other, None), lambda: turned_chapters(self.old, other, None)):
            with self.assertRaises(Unlike) as caught:
                ask()
            self.assertEqual(caught.exception.word, "tongues")
        for reading in NO_READINGS:
            with self.assertRaises(BadReading) as caught:
                turned(self.old, self.new(), reading)
            self.assertIn(caught.exception.number, (-1, 0, 1))
        for chapters, number in bad_works():
            with self.assertRaises(BadWork) as caught:
                turned_chapters(self.old, self.new(), chapters)
            self.assertEqual(caught.exception.number, number)


def bad_works():
    """Works that are none, for a tongue with the words a and b, and the numbers that are told."""
    yield from [(None, -1), ("ab", -1), ((), -1), ([], -1), (((),) * 7, -1), ({}, -1), (5, -1), ((None,) * 7, -1)]
    for reading in NO_READINGS:
        yield (reading,), 0
        yield ((), [("a", 0)], reading, None), 2


if __name__ == "__main__":
    unittest.main()
