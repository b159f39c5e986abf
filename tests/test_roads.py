import unittest

import plain
from keptacross.books import Book
from keptacross.carrying import BEGINNING, carried, hear, finish
from keptacross.errors import BadReading, BadRoad
from keptacross.roads import Road
from keptacross.terms import Term
from keptacross.tongues import Tongue
from keptacross.wordmaps import WordMap


def by_words(road, reading):
    page, standing = (), road.beginning
    for word, pick in reading:
        said, standing = road.hear(standing, word, pick)
        page += said
    return page + road.finish(standing)


def first_book():
    return Book(Tongue(("a", "b")), (Term("t", ("a", "b"), (("x", "y"), ("*n", "x"))),
                                     Term("s", ("b",), ((),))))


def second_book():
    return Book(Tongue(("x", "y")), (Term("t", ("x", "_", "y"), (("u", "_"), ("never", "_"))),
                                     Term("s", ("y",), (("v",), ("never",)))))


class Roads(unittest.TestCase):
    def test_attributes(self):
        one, two = first_book(), second_book()
        road = Road(one, two)
        self.assertEqual(road.books, (one, two))
        self.assertEqual(len(road), 2)
        self.assertEqual(list(road), [one, two])
        self.assertEqual(road.beginning, (BEGINNING, BEGINNING))

    def test_picks_are_those_of_the_first_book(self):
        three = Book(Tongue(("a",)), (Term("t", ("a",), ((), (), ())),))
        self.assertEqual(Road(first_book(), three).picks, 2)
        self.assertEqual(Road(three, first_book()).picks, 3)
        self.assertEqual(Road(Book(Tongue(("a",))), three).picks, 1)

    def test_equal(self):
        self.assertEqual(Road(first_book()), Road(first_book()))
        self.assertNotEqual(Road(first_book()), Road(second_book()))
        self.assertNotEqual(Road(first_book()), Road(first_book(), first_book()))
        self.assertIs(Road(first_book()) == first_book(), False)
        self.assertIs(Road(first_book()) == (first_book(),), False)

    def test_plus(self):
        one, two = first_book(), second_book()
        self.assertEqual(Road(one) + Road(two), Road(one, two))
        self.assertEqual(Road(one) + Road(two, one), Road(one, two, one))
        for left, right in [((one, two), (two, one)), ((one,) * 3, (two,)), ((one,), (two,) * 3)]:
            with self.assertRaises(BadRoad) as caught:
                Road(*left) + Road(*right)
            self.assertEqual(caught.exception.number, -1)

    def test_bad_roads(self):
        one = first_book()
        for books, number in [((), -1), ((one,) * 4, -1), ((None,) * 4, -1), ((None,), 0), ((one, one, 1), 2),
                              ((one, Tongue(("a",)), 1), 1), (((one,),), 0), ((Road(one),), 0)]:
            with self.assertRaises(BadRoad) as caught:
                Road(*books)
            self.assertEqual(caught.exception.number, number)

    def test_bad_readings(self):
        road = Road(first_book(), second_book())
        for reading, number in [(None, -1), ("a", -1), ((("a", 0),) * 61, -1), ((("x", 0),), 0), ((("a", 3),), 0),
                                ((("a", 0), ("b", True)), 1), ([("a", 0), "b", None], 1)]:
            with self.assertRaises(BadReading) as caught:
                road(reading)
            self.assertEqual(caught.exception.number, number)
        self.assertEqual(len(road([["a", 0]] * 60)), 60)

    def test_a_page_is_carried_on_with_picks_0(self):
        road = Road(first_book(), second_book())
        self.assertEqual(road((("a", 0), ("b", 0), ("b", 0))), ("x", "v"))
        self.assertEqual(road((("a", 0), ("a", 0), ("b", 0), ("a", 1), ("b", 0))), ("a", "x", "v", "*n", "x"))
        self.assertEqual(road((("a", 1), ("b", 0), ("a", 1), ("a", 0), ("b", 1))), ("*n", "x", "a", "x", "v"))

    def test_tokens_come_one_by_one(self):
        road = Road(first_book(), second_book())
        said, standing = road.hear(road.beginning, "a")
        self.assertEqual((said, standing), ((), (("", 0, (), (), (), (("a", 0),)), BEGINNING)))
        said, standing = road.hear(road.beginning, "a", 1)
        self.assertEqual((said, standing), ((), (("", 0, (), (), (), (("a", 1),)), BEGINNING)))
        said, standing = road.hear(standing, "b")
        self.assertEqual((said, standing), (("*n",), (BEGINNING, ("", 0, (), (), (), (("x", 0),)))))
        self.assertEqual(road.finish(standing), ("x",))

    def test_a_gap_takes_a_note(self):
        road = Road(first_book(), Book(Tongue(("x", "y")), (Term("t", ("x", "_", "x"), (("u", "_"),)),)))
        self.assertEqual(road((("a", 1), ("b", 0), ("a", 1), ("b", 0))), ("*n", "u", "*n"))

    def test_at_the_end_each_book_says_what_it_holds(self):
        road = Road(first_book(), second_book())
        standing = (("", 0, (), (), (), (("a", 0),)), ("", 0, (), (), (), (("x", 0),)))
        self.assertEqual(road.finish(standing), ("x", "a"))
        standing = (("", 0, (), (), (("a", "y"),), (("a", 0),)), ("", 0, (), (), (), (("x", 0), ("z", 0))))
        self.assertEqual(road.finish(standing), ("u", "z"))

    def test_lists(self):
        road = Road(first_book(), second_book())
        standing = [["", 0, [], [], [], [["a", 0]]], ["", 0, [], [], [], []]]
        self.assertEqual(road.hear(standing, "b"), road.hear((("", 0, (), (), (), (("a", 0),)), BEGINNING), "b"))
        self.assertEqual(road.finish(standing), ("a",))
        self.assertEqual(standing, [["", 0, [], [], [], [["a", 0]]], ["", 0, [], [], [], []]])

    def test_one_book_is_carried_as_by_itself(self):
        for seed in range(40):
            book = plain.some_book(seed)
            reading = plain.some_reading(seed, book, 9)
            self.assertEqual(Road(book)(reading), carried(book, reading))
            standing = BEGINNING
            for word, pick in reading:
                _, said, behind = hear(book, standing, word, pick)
                self.assertEqual(Road(book).hear((standing,), word, pick), (said, (behind,)))
                standing = behind
            self.assertEqual(Road(book).finish((standing,)), finish(book, standing)[1])

    def test_in_one_go_and_word_by_word(self):
        for seed in range(150):
            books = [plain.some_book(seed + 1000 * k) for k in range(1 + seed % 3)]
            reading = plain.some_reading(seed, books[0], seed % 12)
            page = plain.road_page(books, reading)
            road = Road(*books)
            self.assertEqual(road(reading), page)
            self.assertEqual(by_words(road, reading), page)

    def test_a_higher_pick_makes_no_other_page(self):
        for seed in range(60):
            road = Road(plain.some_book(seed, terms=2), plain.some_book(seed + 1))
            reading = plain.some_reading(seed, road.books[0], 9)
            lower = tuple((word, pick if pick < road.picks else 0) for word, pick in reading)
            self.assertEqual(road(reading), road(lower))

    def test_turns_wait_in_each_book(self):
        turner = Book(Tongue(("a", "b")), (Term("t", ("a",), ((),), turn="k"),),
                      turns=(("k", WordMap((("b", "a"),))),))
        road = Road(turner, turner, turner)
        for text, page in [("abb", ""), ("abbb", "a"), ("abbbb", "ab"), ("babb", "b"), ("babbb", "ba")]:
            reading = tuple((word, 0) for word in text)
            self.assertEqual(road(reading), tuple(page))
            self.assertEqual(by_words(road, reading), tuple(page))


if __name__ == "__main__":
    unittest.main()
