import itertools
import unittest

from keptacross.errors import BadStyle, BadTongue, NoPlace
from keptacross.styles import Style
from keptacross.tongues import Tongue


class Tongues(unittest.TestCase):
    def bad(self, told, *args, **more):
        with self.assertRaises(BadTongue) as caught:
            Tongue(*args, **more)
        self.assertEqual(caught.exception.word, told)

    def test_attributes(self):
        tongue = Tongue(["a", "b", "c"], headings=["a"], quote="b")
        self.assertEqual((tongue.words, tongue.headings, tongue.quote), (("a", "b", "c"), ("a",), "b"))
        plain = Tongue(("a",))
        self.assertEqual((plain.words, plain.headings, plain.quote), (("a",), (), None))

    def test_len_iteration_and_in(self):
        tongue = Tongue(("a", "b"), headings=("b",))
        self.assertEqual(len(tongue), 2)
        self.assertEqual(list(tongue), ["a", "b"])
        self.assertIs("b" in tongue, True)
        for thing in ("c", "ab", "", None, True, 0, ("a",), ["a"], {}):
            self.assertIs(thing in tongue, False)

    def test_equal(self):
        self.assertEqual(Tongue(("a", "b"), headings=("a",), quote="b"), Tongue(["a", "b"], headings=["a"], quote="b"))
        self.assertNotEqual(Tongue(("a", "b")), Tongue(("a", "c")))
        self.assertNotEqual(Tongue(("a", "b")), Tongue(("a", "b"), headings=("a",)))
        self.assertNotEqual(Tongue(("a", "b")), Tongue(("a", "b"), quote="b"))
        self.assertIs(Tongue(("a",)) == ("a",), False)

    def test_words(self):
        self.assertEqual(len(Tongue(tuple("abcdefgh"))), 8)
        for words in [(), tuple("abcdefghi"), ("b", "a"), ("a", "a"), "ab", None, ("a", "*b"), ("a", ""), ("_",),
                      ("a", 1), (True,), ("A",), ("abcdefghi",), {"a": 1}]:
            self.bad("words", words)

    def test_headings(self):
        self.assertEqual(Tongue(("a", "b"), headings=("a", "b")).headings, ("a", "b"))
        for headings in [("c",), ("b", "a"), ("a", "a"), "a", None, (1,), ("*a",), (("a",),)]:
            self.bad("headings", ("a", "b"), headings=headings)

    def test_quote(self):
        for quote in ["c", "a", "", "*b", True, 0, ("b",), ["b"]]:
            self.bad("quote", ("a", "b"), headings=("a",), quote=quote)

    def test_the_first_wrong_one_goes_ahead(self):
        self.bad("words", (), headings=("c",), quote="d")
        self.bad("headings", ("a",), headings=("c",), quote="d")


class Styles(unittest.TestCase):
    def bad(self, told, *args):
        with self.assertRaises(BadStyle) as caught:
            Style(*args)
        self.assertEqual(caught.exception.word, told)

    def maze(self):
        """Room 2 leads nowhere, room 3 leads to an end, but is not come to; room 4 is a far end."""
        return Style(((("a", 1), ("b", 2), ("c", 0)), (("b", 0),), (("d", 2),), (("e", 1),), (("f", 4),)), (1, 4))

    def test_attributes(self):
        style = Style([[["a", 1]], []], [1])
        self.assertEqual(style.rooms, ((("a", 1),), ()))
        self.assertEqual(style.ends, (1,))
        self.assertEqual(len(style), 2)
        self.assertEqual(list(style), [(("a", 1),), ()])

    def test_lists_stay(self):
        rooms, ends = [[["a", 0]]], [0]
        style = Style(rooms, ends)
        rooms[0][0][1] = 5
        ends.append(9)
        self.assertEqual((style.rooms, style.ends), (((("a", 0),),), (0,)))
        self.assertIs(style.reads(["a"]), True)

    def test_equal(self):
        self.assertEqual(Style(((("a", 0),),), (0,)), Style([[["a", 0]]], [0]))
        self.assertNotEqual(Style(((("a", 0),),), (0,)), Style(((("b", 0),),), (0,)))
        self.assertNotEqual(Style(((("a", 1),), ()), (1,)), Style(((("a", 1),), ()), (0, 1)))
        self.assertIs(Style(((),), (0,)) == ((),), False)

    def test_rooms(self):
        self.assertEqual(len(Style(((),) * 6, (0,))), 6)
        for rooms in [(), ((),) * 7, None, "a", (None,), ("a",), ((("a",),),), ((("a", 1),),), ((("a", -1),),),
                      ((("a", True),),), ((("a", False),),), ((("a", "0"),),), ((("a", 0, 0),),), (((1, 0),),),
                      ((("b", 0), ("a", 0)),), ((("a", 0), ("a", 0)),), ((("*a", 0),),), ((("_", 0),),)]:
            self.bad("rooms", rooms, (0,))

    def test_two_ways_for_one_word(self):
        self.bad("rooms", ((("a", 0), ("a", 1)), ()), (0,))

    def test_ends(self):
        for ends in [None, (1,), (-1,), (False,), ("0",), (0, 0), "0", 0]:
            self.bad("ends", ((("a", 0),),), ends)
        self.bad("ends", ((), ()), (1, 0))

    def test_texts(self):
        self.bad("texts", ((("a", 0),),), ())
        self.bad("texts", ((("a", 0),), ()), (1,))
        self.assertIs(Style(((("a", 0),),), (0,)).reads(()), True)

    def test_the_first_wrong_one_goes_ahead(self):
        self.bad("rooms", (), (5,))
        self.bad("ends", ((),), (5,))
        self.bad("rooms", ((("a", 1),),), ())

    def test_let(self):
        style = self.maze()
        self.assertEqual([style.let(room) for room in range(5)],
                         [(("a", 1), ("c", 0)), (("b", 0),), (), (("e", 1),), (("f", 4),)])

    def test_is_end(self):
        self.assertEqual([self.maze().is_end(room) for room in range(5)], [False, True, False, False, True])

    def test_no_place(self):
        for room in (-1, 5, True, False, None, "0", (0,), [0], 10 ** 39):
            for ask in (self.maze().let, self.maze().is_end):
                with self.assertRaises(NoPlace) as caught:
                    ask(room)
                self.assertIs(caught.exception.place, room)

    def test_vocabulary(self):
        self.assertEqual(self.maze().vocabulary, ("a", "b", "c"))
        self.assertEqual(Style(((("a", 1),), ()), (0,)).vocabulary, ())
        chain = Style(((("f", 1),), (("e", 2),), (("d", 3),), (("c", 4),), (("b", 5),), ()), (5,))
        self.assertEqual(chain.vocabulary, ("b", "c", "d", "e", "f"))
        self.assertEqual(Style(((("b", 1),), (("a", 2),), (("c", 2),)), (1,)).vocabulary, ("b",))
        self.assertEqual(Style(((("z", 1), ("zz", 0)), (("a", 0),)), (0,)).vocabulary, ("a", "z", "zz"))

    def test_reads(self):
        style = self.maze()
        for text in [("a",), ("c", "a"), ("a", "b", "a"), ["c", "c", "a"]]:
            self.assertIs(style.reads(text), True)
        for text in ["ca", "", None, (), ("b",), ("a", "b"), ("b", "d"), ("e",), ("f",), ("a", "a")]:
            self.assertIs(style.reads(text), False)

    def test_words_tell_the_texts(self):
        style = self.maze()
        rooms = {(): 0}
        for length in range(1, 5):
            for text in itertools.product("abcdef", repeat=length):
                room = rooms.get(text[:-1])
                ahead = dict(style.rooms[room]).get(text[-1]) if room is not None else None
                rooms[text] = ahead
                self.assertIs(style.reads(text), ahead in style.ends if ahead is not None else False)

    def test_free(self):
        style = Style.free(["a", "b"])
        self.assertEqual(style, Style(((("a", 0), ("b", 0)),), (0,)))
        self.assertIs(style.reads(("b", "a", "b")), True)
        self.assertEqual(Style.free(()), Style(((),), (0,)))
        self.assertIs(Style.free(("a",)).reads("a"), False)
        for words in ["ab", ("b", "a"), ("a", "a"), ("_",), None, 5]:
            with self.assertRaises(BadStyle) as caught:
                Style.free(words)
            self.assertEqual(caught.exception.word, "rooms")


if __name__ == "__main__":
    unittest.main()
