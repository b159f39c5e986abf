import unittest

from keptacross.books import Book
from keptacross.errors import BadBook, BadTerm, NoTerm
from keptacross.terms import Term, is_scope, is_way
from keptacross.tongues import Tongue
from keptacross.wordmaps import WordMap

WAYS = (("x",),)


class Forms(unittest.TestCase):
    def test_scopes(self):
        for thing in [("work",), ("plain",), ("quoted",), ("in", "a"), ("behind", "abcdefgh"), ["work"], ["in", "a"]]:
            self.assertIs(is_scope(thing), True)

    def test_no_scopes(self):
        ring = ["in"]
        ring.append(ring)
        for thing in [(), "work", ("in",), ("work", "a"), ("plain", "a"), ("in", "*a"), ("in", "_"), ("in", ""),
                      ("behind", 1), ("in", True), ("on", "a"), ("in", "a", "b"), ("in", ("a",)), None, 5, True,
                      (True,), (("work",),), {"work": 1}, ring, ring[1:], (["work"],), "in"]:
            self.assertIs(is_scope(thing), False)

    def test_ways(self):
        for thing in [(), ("a",), ("*a",), ("a", "*b", "c", "d", "e", "f"), [], ["a", "a"]]:
            self.assertIs(is_way(thing, False), True)
            self.assertIs(is_way(thing, True), False)
        for thing in [("_",), ("a", "_"), ("_", "*a", "b", "c", "d", "e"), ["_", "a"]]:
            self.assertIs(is_way(thing, True), True)
            self.assertIs(is_way(thing, False), False)

    def test_no_ways(self):
        for thing in ["", "a", "_", None, 0, True, ("a",) * 7, ("_",) + ("a",) * 6, ("_", "_"), ("A",), ("",), (1,),
                      (True,), (("a",),), ("**a",), ("__",), {"a": 1}, ("_", 1), ("_", None)]:
            for gap in (True, False):
                self.assertIs(is_way(thing, gap), False)


class Terms(unittest.TestCase):
    def bad(self, told, *args, **more):
        with self.assertRaises(BadTerm) as caught:
            Term(*args, **more)
        self.assertEqual(caught.exception.word, told)

    def test_attributes(self):
        term = Term("a", ["x", "_", "y"], [["_"], ["*n", "_"]], scope=["in", "h"], first=["_", "z"], turn="t")
        self.assertEqual((term.name, term.pattern, term.ways), ("a", ("x", "_", "y"), (("_",), ("*n", "_"))))
        self.assertEqual((term.scope, term.first, term.turn), (("in", "h"), ("_", "z"), "t"))
        self.assertIs(term.gap, True)
        self.assertEqual(len(term), 3)

    def test_what_is_left_out(self):
        term = Term("a", ("x",), ((),))
        self.assertEqual((term.scope, term.first, term.turn, term.gap, len(term)), (("work",), None, None, False, 1))

    def test_lists_stay(self):
        ways, first = [["a"]], ["b"]
        term = Term("a", ["x"], ways, first=first)
        ways[0].append("c")
        first.clear()
        self.assertEqual((term.ways, term.first), ((("a",),), ("b",)))

    def test_equal(self):
        term = Term("a", ("x",), WAYS)
        self.assertEqual(term, Term("a", ["x"], [["x"]], scope=["work"]))
        for other in [Term("b", ("x",), WAYS), Term("a", ("y",), WAYS), Term("a", ("x",), WAYS + WAYS),
                      Term("a", ("x",), WAYS, scope=("plain",)), Term("a", ("x",), WAYS, first=()),
                      Term("a", ("x",), WAYS, turn="t")]:
            self.assertNotEqual(term, other)
        self.assertIs(term == ("a", ("x",), WAYS), False)
        self.assertNotEqual(Term("a", ("x",), WAYS, first=()), Term("a", ("x",), WAYS, first=("b",)))

    def test_name(self):
        for name in ["", "A", "abcdefghi", "*a", "_", None, True, 1, ("a",), ["a"]]:
            self.bad("name", name, ("x",), WAYS)

    def test_pattern(self):
        for pattern in [("a",), ("a", "b"), ("a", "b", "c"), ("a", "_", "c"), ["a", "a", "a"]]:
            self.assertEqual(Term("t", pattern, ((("_",),) if "_" in pattern else ((),))).pattern, tuple(pattern))
        for pattern in [(), ("a", "b", "c", "d"), ("_",), ("_", "a"), ("a", "_"), ("_", "a", "b"), ("a", "b", "_"),
                        ("_", "_", "_"), ("a", "_", "_"), ("*a",), ("",), "a", None, (1,), (True,), (("a",),)]:
            self.bad("pattern", "t", pattern, (("_",),))
            self.bad("pattern", "t", pattern, ((),))

    def test_number_of_ways(self):
        self.assertEqual(len(Term("t", ("x",), ((), (), ())).ways), 3)
        for ways in [(), ((), (), (), ()), None, "a", 1, ("a",), ((1,),), (None,), ({},)]:
            self.bad("ways", "t", ("x",), ways)

    def test_gap_in_ways(self):
        self.bad("ways", "t", ("x",), (("_",),))
        self.bad("ways", "t", ("x",), (("a",), ("_",)))
        self.bad("ways", "t", ("x", "_", "y"), (("_",), ()))
        self.bad("ways", "t", ("x", "_", "y"), (("_", "_"),))
        self.bad("first", "t", ("x", "_", "y"), (("_",),), first=("a",))
        self.bad("first", "t", ("x",), WAYS, first=("_",))
        self.assertEqual(Term("t", ("x", "_", "y"), (("_",),), first=("_",)).first, ("_",))

    def test_length_of_ways(self):
        self.assertEqual(len(Term("t", ("x",), (("a",) * 6,), first=("a",) * 6).first), 6)
        self.bad("ways", "t", ("x",), (("a",) * 7,))
        self.bad("first", "t", ("x",), WAYS, first=("a",) * 7)

    def test_scope_first_and_turn(self):
        for scope in [None, "work", (), ("in",), ("in", "_"), ("on", "a")]:
            self.bad("scope", "t", ("x",), WAYS, scope=scope)
        for first in ["a", 0, True, False, "", (None,), ("A",)]:
            self.bad("first", "t", ("x",), WAYS, first=first)
        for turn in ["", "*a", 0, True, ("a",), "_"]:
            self.bad("turn", "t", ("x",), WAYS, turn=turn)

    def test_the_first_wrong_one_goes_ahead(self):
        wrong = {"name": "", "pattern": (), "ways": (), "scope": (), "first": 1, "turn": ""}
        right = {"name": "a", "pattern": ("x",), "ways": WAYS, "scope": ("work",), "first": None, "turn": None}
        for number, name in enumerate(wrong):
            told = {key: (right if k < number else wrong)[key] for k, key in enumerate(wrong)}
            self.bad(name, **told)


class Books(unittest.TestCase):
    tongue = Tongue(("a", "b", "h"), headings=("h",), quote="b")

    def bad(self, told, *args, **more):
        with self.assertRaises(BadBook) as caught:
            Book(*args, **more)
        self.assertEqual(caught.exception.word, told)

    def book(self):
        turns = (("k", WordMap((("a", "b"),))), ("m", WordMap()))
        terms = (Term("z", ("a",), WAYS, turn="k"), Term("y", ("b", "_", "a"), (("_",),) * 3, scope=("in", "h")),
                 Term("x", ("h",), WAYS + WAYS, scope=("behind", "a"), turn="m"))
        return Book(self.tongue, terms, turns=turns)

    def test_attributes(self):
        book = self.book()
        self.assertEqual(book.tongue, self.tongue)
        self.assertEqual([term.name for term in book.terms], ["z", "y", "x"])
        self.assertEqual([name for name, _ in book.turns], ["k", "m"])
        self.assertEqual(book.names, ("z", "y", "x"))
        self.assertEqual(book.picks, 3)
        empty = Book(self.tongue)
        self.assertEqual((empty.terms, empty.turns, empty.names, empty.picks, len(empty)), ((), (), (), 1, 0))

    def test_lists_are_kept_as_tuples(self):
        turns = [["k", WordMap()]]
        terms = [Term("z", ("a",), WAYS)]
        book = Book(self.tongue, terms, turns=turns)
        self.assertEqual((book.terms, book.turns), ((Term("z", ("a",), WAYS),), (("k", WordMap()),)))
        turns[0].clear()
        terms.clear()
        self.assertEqual((len(book.terms), book.turns), (1, (("k", WordMap()),)))

    def test_items(self):
        book = self.book()
        self.assertEqual(book["x"], book.terms[2])
        self.assertEqual(len(book), 3)
        self.assertEqual(list(book), list(book.terms))
        self.assertIs("y" in book, True)
        for name in ("w", "", None, 0, True, ("x",), ["x"], slice(1)):
            self.assertIs(name in book, False)
            for ask in (book.__getitem__, book.turn_of):
                with self.assertRaises(NoTerm) as caught:
                    ask(name)
                self.assertIs(caught.exception.name, name)

    def test_turn_of(self):
        book = self.book()
        self.assertEqual(book.turn_of("z"), WordMap((("a", "b"),)))
        self.assertEqual(book.turn_of("y"), WordMap())
        self.assertEqual(book.turn_of("x"), WordMap())

    def test_equal(self):
        self.assertEqual(self.book(), self.book())
        one, two = Term("z", ("a",), WAYS), Term("y", ("a",), WAYS)
        self.assertNotEqual(Book(self.tongue, (one, two)), Book(self.tongue, (two, one)))
        self.assertNotEqual(Book(self.tongue), Book(Tongue(("a", "b", "h"))))
        self.assertNotEqual(Book(self.tongue), Book(self.tongue, turns=(("k", WordMap()),)))
        self.assertIs(Book(self.tongue) == self.tongue, False)

    def test_tongue(self):
        for tongue in [None, ("a",), "a", True]:
            self.bad("tongue", tongue)

    def test_turns(self):
        four = [(name, WordMap()) for name in "klmn"]
        self.assertEqual(len(Book(self.tongue, turns=four).turns), 4)
        for turns in [four + [("o", WordMap())], four[::-1], four[:1] * 2, None, "k", ("k",), (("k",),),
                      (("k", WordMap(), 1),), (("K", WordMap()),), (("k", (("a", "b"),)),), ((1, WordMap()),), {}]:
            self.bad("turns", self.tongue, (), turns=turns)

    def test_number_of_terms(self):
        nine = [Term(name, ("a",), WAYS) for name in "abcdefghi"]
        self.assertEqual(len(Book(self.tongue, nine[:8])), 8)
        for terms in [nine, None, "a", ("a",), (None,), nine[:2] + nine[:1], {}]:
            self.bad("terms", self.tongue, terms)

    def test_what_terms_stand_on(self):
        for term in [Term("t", ("c",), WAYS), Term("t", ("a", "c"), WAYS), Term("t", ("a", "_", "c"), (("_",),)),
                     Term("t", ("a",), WAYS, scope=("in", "a")), Term("t", ("a",), WAYS, scope=("in", "c")),
                     Term("t", ("a",), WAYS, scope=("behind", "h")), Term("t", ("a",), WAYS, scope=("behind", "c")),
                     Term("t", ("a",), WAYS, turn="n")]:
            self.bad("terms", self.tongue, (term,), turns=(("k", WordMap()),))
        for scope in [("work",), ("in", "h"), ("behind", "a"), ("behind", "b"), ("plain",), ("quoted",)]:
            self.assertEqual(len(Book(self.tongue, (Term("t", ("a",), WAYS, scope=scope, turn="k"),),
                                      turns=(("k", WordMap()),))), 1)
        self.assertEqual(len(Book(Tongue(("a",)), (Term("t", ("a",), WAYS, scope=("quoted",)),))), 1)

    def test_the_first_wrong_one_goes_ahead(self):
        self.bad("tongue", None, None, turns=None)
        self.bad("turns", self.tongue, None, turns=None)
        self.bad("terms", self.tongue, None, turns=())


if __name__ == "__main__":
    unittest.main()
