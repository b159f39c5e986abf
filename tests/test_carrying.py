import random
import unittest

import plain
from keptacross.books import Book
from keptacross.carrying import BEGINNING, carried, finish, hear, plain_reading, text_of
from keptacross.errors import BadReading
from keptacross.terms import Term
from keptacross.tongues import Tongue
from keptacross.wordmaps import WordMap


def by_words(book, tokens):
    """The names of the pieces, the page, and all standings on the way, word by word."""
    names, page, standings = [], [], [BEGINNING]
    for token, pick in tokens:
        cut, said, standing = hear(book, standings[-1], token, pick)
        names.extend(cut)
        page.extend(said)
        standings.append(standing)
    cut, said = finish(book, standings[-1])
    return tuple(names) + cut, tuple(page) + said, standings


def said(book, text, picks=None):
    """The page of a text that is written as a string, both ways, which have to agree."""
    words = text.split()
    reading = tuple(zip(words, picks or [0] * len(words)))
    page = carried(book, reading)
    assert by_words(book, reading)[1] == page
    return " ".join(page)


TONGUE = Tongue(("a", "b", "c", "g", "h", "q"), headings=("g", "h"), quote="q")


def book(*terms, turns=()):
    return Book(TONGUE, terms, turns=turns)


class Example(unittest.TestCase):
    def test_both_readings(self):
        text = "the cat sees big cat"
        self.assertEqual(said(plain.cats(), text), "les chats voit big chat")
        self.assertEqual(said(plain.cats(), text, [0, 1, 0, 0, 0]), "les minou voit big chat")

    def test_pieces(self):
        names, page, _ = by_words(plain.cats(), plain_reading("the cat sees big cat".split()))
        self.assertEqual(names, ("a", "b", "d"))
        self.assertEqual(page, ("les", "chats", "voit", "big", "chat"))

    def test_steps(self):
        cats = plain.cats()
        many = (("chat", "chats"),)
        steps = [("the", ("a",), ("les",), ("", 0, (), (), many, ())),
                 ("cat", ("b",), ("chats",), BEGINNING),
                 ("sees", (), (), ("", 0, (), (), (), (("sees", 0),))),
                 ("big", (), (), ("", 0, (), (), (), (("sees", 0), ("big", 0)))),
                 ("cat", ("d",), ("voit", "big", "chat"), BEGINNING)]
        standing = BEGINNING
        for word, names, page, behind in steps:
            self.assertEqual(hear(cats, standing, word), (names, page, behind))
            standing = behind
        self.assertEqual(finish(cats, standing), ((), ()))


class Pieces(unittest.TestCase):
    def test_the_longest_goes_ahead_then_the_rank(self):
        short, long_one, other = (Term("s", ("a",), (("short",),)), Term("l", ("a", "b"), (("long",),)),
                                  Term("o", ("a", "b"), (("other",),)))
        self.assertEqual(said(book(short, long_one, other), "a b a"), "long short")
        self.assertEqual(said(book(short, other, long_one), "a b a"), "other short")

    def test_what_is_long_counts_its_gap(self):
        gap = Term("g", ("a", "_", "c"), (("gap", "_"),))
        two = Term("t", ("a", "b"), (("two",),))
        self.assertEqual(said(book(two, gap), "a b c a b b"), "gap b two b")

    def test_kept_words(self):
        self.assertEqual(said(book(), "a h q b"), "a h q b")
        self.assertEqual(said(book(), ""), "")

    def test_a_piece_is_passed_by(self):
        pair = Term("p", ("a", "a"), (("x",),))
        self.assertEqual(said(book(pair), "a a a"), "x a")

    def test_picks(self):
        term = Term("t", ("a",), (("x",), ("y",)))
        three = Term("t", ("a",), (("x",), ("y",), ()))
        self.assertEqual(said(book(term), "a a a", [0, 1, 2]), "x y x")
        self.assertEqual(said(book(three), "a a a", [0, 1, 2]), "x y")

    def test_the_pick_of_the_first_word_counts(self):
        term = Term("t", ("a", "b"), (("x",), ("y",)))
        self.assertEqual(said(book(term), "a b a b", [0, 1, 1, 0]), "x y")

    def test_ways_of_six_items_and_none(self):
        term = Term("t", ("a",), (("x",) * 6, ()))
        self.assertEqual(carried(book(term), (("a", 0), ("a", 1))), ("x",) * 6)

    def test_notes_are_said(self):
        self.assertEqual(said(book(Term("t", ("a",), (("*n", "x", "*n"),))), "a b"), "*n x *n b")


class Gaps(unittest.TestCase):
    def test_the_gap_is_plainly_rendered(self):
        gap = Term("g", ("a", "_", "a"), (("l", "_", "r"),))
        one = Term("o", ("b",), (("x", "*n", "y"), ("z",)), first=("f",))
        self.assertEqual(said(book(gap, one), "a b a", [0, 1, 0]), "l x *n y r")
        self.assertEqual(said(book(gap, one), "a c a"), "l c r")

    def test_the_term_of_the_first_rank_that_holds_renders_it(self):
        gap = Term("g", ("a", "_", "a"), (("_",),))
        near = Term("n", ("b",), (("near",),), scope=("in", "h"))
        far = Term("f", ("b",), (("far",),))
        self.assertEqual(said(book(gap, near, far), "a b a h a b a"), "far h near")
        self.assertEqual(said(book(gap, far, near), "a b a h a b a"), "far h far")

    def test_it_holds_at_the_beginning_of_the_piece(self):
        gap = Term("g", ("h", "_", "a"), (("_",),))
        near = Term("n", ("b",), (("near",),), scope=("in", "h"))
        self.assertEqual(said(book(gap, near), "h b a h b a"), "b near")
        quoted = Term("n", ("b",), (("near",),), scope=("quoted",))
        gap = Term("g", ("q", "_", "a"), (("_",),))
        self.assertEqual(said(book(gap, quoted), "q b a q b a"), "b near")

    def test_the_rendering_uses_no_term(self):
        gap = Term("g", ("a", "_", "a"), (("_",),))
        one = Term("o", ("b",), (("x",),), first=("f",), turn="k")
        turns = (("k", WordMap((("c", "z"),))),)
        self.assertEqual(said(book(gap, one, turns=turns), "a b a b c"), "x f z")

    def test_gap_in_first_way(self):
        gap = Term("g", ("a", "_", "c"), (("_",),), first=("full", "_"))
        self.assertEqual(said(book(gap), "a b c a b c h a q c"), "full b b h full q")

    def test_a_heading_in_the_gap_is_passed(self):
        gap = Term("g", ("a", "_", "c"), (("_",),))
        near = Term("n", ("c",), (("near",),), scope=("in", "h"))
        self.assertEqual(said(book(gap, near), "c a h c c"), "c h near")

    def test_any_token_can_be_in_a_gap(self):
        gap = Term("g", ("a", "_", "c"), (("l", "_"),))
        tokens = (("a", 0), ("*n", 0), ("c", 0), ("a", 0), ("else", 0), ("c", 0))
        self.assertEqual(by_words(book(gap), tokens)[:2], (("g", "g"), ("l", "*n", "l", "else")))


class FirstWays(unittest.TestCase):
    def test_once_in_a_chapter(self):
        term = Term("t", ("a",), (("x",), ("y",)), first=("f",))
        self.assertEqual(said(book(term), "a a a h a a g a", [2, 1, 0, 0, 1, 0, 0, 2]), "f y x h f x g f")

    def test_used_stands_in_the_standing(self):
        one, two = Term("z", ("a",), (("x",),), first=()), Term("y", ("b",), (("x",),), first=("f",))
        _, page, standings = by_words(book(one, two), plain_reading("a b h".split()))
        self.assertEqual([standing[3] for standing in standings], [(), ("z",), ("y", "z"), ()])
        self.assertEqual(page, ("f", "h"))

    def test_a_heading_in_the_piece_forgets_it(self):
        term = Term("t", ("a", "h"), (("x",),), first=("f",))
        self.assertEqual(said(book(term), "a h a h"), "f f")


class Scopes(unittest.TestCase):
    def only(self, scope):
        return book(Term("t", ("a",), (("x",),), scope=scope))

    def test_work(self):
        self.assertEqual(said(self.only(("work",)), "a q a h a"), "x q x h x")

    def test_in(self):
        self.assertEqual(said(self.only(("in", "h")), "a h a g a h q a"), "a h x g a h q x")

    def test_behind(self):
        self.assertEqual(said(self.only(("behind", "b")), "a b a a h a c a b a"), "a b x x h a c a b x")

    def test_behind_itself(self):
        self.assertEqual(said(self.only(("behind", "a")), "a a h a a"), "a x h a x")

    def test_plain_and_quoted(self):
        self.assertEqual(said(self.only(("plain",)), "a q a q a q h a"), "x q a q x q h x")
        self.assertEqual(said(self.only(("quoted",)), "a q a q a q h a"), "a q x q a q h a")

    def test_behind_the_quote(self):
        both = book(Term("t", ("a",), (("x",),), scope=("behind", "q")),
                    Term("s", ("b",), (("y",),), scope=("quoted",)))
        self.assertEqual(said(both, "a b q a b q a b"), "a b q x y q x b")

    def test_only_words_of_scopes_are_met(self):
        two = book(Term("t", ("a",), (("x",),), scope=("behind", "c")),
                   Term("s", ("a",), (("y",),), scope=("behind", "b")))
        standings = by_words(two, plain_reading("a c a b c h".split()))[2]
        self.assertEqual([standing[2] for standing in standings],
                         [(), (), ("c",), ("c",), ("b", "c"), ("b", "c"), ()])

    def test_no_quote(self):
        none = Book(Tongue(("a", "b")), (Term("t", ("a",), (("x",),), scope=("quoted",)),))
        self.assertEqual(carried(none, plain_reading(("a", "b", "a"))), ("a", "b", "a"))

    def test_words_within_a_piece_count_behind_it(self):
        term = Term("t", ("a", "b"), (("x",),), scope=("plain",))
        met = Term("m", ("b", "q"), (("y",),), scope=("work",))
        behind = Term("n", ("c",), (("z",),), scope=("behind", "b"))
        self.assertEqual(said(book(term, met, behind), "c b q a b c q a b"), "c y a b z q x")

    def test_a_new_chapter_ends_the_quote(self):
        standings = by_words(self.only(("quoted",)), plain_reading("q h q q g".split()))[2]
        self.assertEqual([(standing[0], standing[1]) for standing in standings],
                         [("", 0), ("", 1), ("h", 0), ("h", 1), ("h", 0), ("g", 0)])


class Turns(unittest.TestCase):
    turns = (("k", WordMap((("c", "d"), ("d", "e"), ("x", "y")))), ("m", WordMap((("c", "m"), ("d", "c")))))

    def turner(self, name, word, turn, way=()):
        return Term(name, (word,), (way,), turn=turn)

    def test_the_next_word_is_mapped_once(self):
        one = book(self.turner("t", "a", "k"), turns=self.turns)
        self.assertEqual(said(one, "c a c c"), "c d c")

    def test_turns_gather(self):
        two = book(self.turner("t", "a", "k"), self.turner("s", "b", "m"), turns=self.turns)
        self.assertEqual(said(two, "a a c"), "e")
        self.assertEqual(said(two, "a b c"), "c")
        self.assertEqual(said(two, "b a c"), "m")
        self.assertEqual(said(two, "a a a c"), "e")

    def test_notes_are_passed_over(self):
        two = book(self.turner("t", "a", "k", ("*c",)), Term("s", ("b",), (("*x", "x", "x"),)), turns=self.turns)
        self.assertEqual(said(two, "a a b c"), "*c *c *x y x c")

    def test_a_turn_that_is_not_changing_is_let_go_too(self):
        one = book(self.turner("t", "a", "k"), turns=self.turns)
        self.assertEqual(said(one, "a b c"), "b c")

    def test_the_own_word_goes_ahead_of_the_own_turn(self):
        one = book(self.turner("t", "a", "k", ("c",)), turns=self.turns)
        self.assertEqual(said(one, "a a c"), "c d d")

    def test_the_turn_waits_past_a_heading(self):
        turns = (("k", WordMap((("h", "heading"),))),)
        one = book(self.turner("t", "a", "k"), turns=turns)
        self.assertEqual(said(one, "a h h"), "heading h")
        silent = book(self.turner("t", "a", "k"), Term("s", ("h",), ((),)), turns=(("k", WordMap((("b", "z"),))),))
        self.assertEqual(said(silent, "a h b b"), "z b")

    def test_the_first_word_in_a_gap_can_be_turned(self):
        gap = Term("g", ("b", "_", "b"), (("*n", "_", "c"),))
        one = book(self.turner("t", "a", "k"), gap, turns=self.turns)
        self.assertEqual(said(one, "a b c b"), "*n d c")

    def test_the_turn_in_the_standing(self):
        two = book(self.turner("t", "a", "k"), self.turner("s", "b", "m"), turns=self.turns)
        standings = by_words(two, plain_reading("a b".split()))[2]
        self.assertEqual([standing[4] for standing in standings],
                         [(), (("c", "d"), ("d", "e"), ("x", "y")), (("d", "e"), ("x", "y"))])

    def test_kept_notes_are_no_words(self):
        one = book(self.turner("t", "a", "k"), turns=self.turns)
        self.assertEqual(by_words(one, (("a", 0), ("*c", 0), ("c", 0)))[1], ("*c", "d"))

    def test_words_of_no_tongue_are_turned(self):
        one = book(self.turner("t", "a", "k"), turns=self.turns)
        self.assertEqual(by_words(one, (("a", 0), ("x", 0), ("x", 0)))[1], ("y", "x"))


class Held(unittest.TestCase):
    long_one = Term("l", ("a", "b", "c"), (("x",),))
    two = Term("s", ("a", "b"), (("y",),))

    def test_words_are_held_back(self):
        one = book(self.long_one, self.two)
        standings = by_words(one, (("a", 2), ("b", 1), ("a", 0), ("c", 0)))[2]
        self.assertEqual([standing[5] for standing in standings],
                         [(), (("a", 2),), (("a", 2), ("b", 1)), (("a", 0),), ()])

    def test_they_are_said_at_the_end(self):
        one = book(self.long_one, self.two)
        self.assertEqual(finish(one, ("", 0, (), (), (), (("a", 0), ("b", 0)))), (("s",), ("y",)))
        self.assertEqual(finish(book(self.long_one), ("", 0, (), (), (), (("a", 0), ("b", 0)))),
                         ((None, None), ("a", "b")))
        self.assertEqual(finish(one, BEGINNING), ((), ()))

    def test_several_pieces_in_one_step(self):
        one = book(self.long_one)
        self.assertEqual(hear(one, ("", 0, (), (), (), (("a", 0), ("b", 0))), "b"),
                         ((None, None, None), ("a", "b", "b"), BEGINNING))

    def test_a_longer_term_that_does_not_hold_is_not_waited_for(self):
        one = book(Term("l", ("a", "b"), (("x",),), scope=("in", "h")), Term("s", ("a",), (("y",),)))
        self.assertEqual(hear(one, BEGINNING, "a"), (("s",), ("y",), BEGINNING))
        self.assertEqual(hear(one, ("h", 0, (), (), (), ()), "a"), ((), (), ("h", 0, (), (), (), (("a", 0),))))

    def test_a_standing_of_hands(self):
        one = book(Term("l", ("a", "b"), (("x",),), scope=("in", "h")), Term("s", ("a",), (("y",), ("z",))))
        self.assertEqual(hear(one, ("", 0, (), (), (), (("a", 1), ("a", 0))), "b"),
                         (("s", "s", None), ("z", "y", "b"), BEGINNING))
        self.assertEqual(finish(one, ("", 0, (), (), (), (("a", 1), ("a", 0)))), (("s", "s"), ("z", "y")))

    def test_lists_in_the_place_of_tuples(self):
        one = book(self.long_one)
        standing = ["", 0, [], [], [["b", "z"]], [["a", 0]]]
        self.assertEqual(hear(one, standing, "b"),
                         ((), (), ("", 0, (), (), (("b", "z"),), (("a", 0), ("b", 0)))))
        self.assertEqual(finish(one, standing), ((None,), ("a",)))
        self.assertEqual(standing, ["", 0, [], [], [["b", "z"]], [["a", 0]]])


class Readings(unittest.TestCase):
    def bad(self, reading, number):
        with self.assertRaises(BadReading) as caught:
            carried(plain.cats(), reading)
        self.assertEqual(caught.exception.number, number)

    def test_no_reading_at_all(self):
        for reading in [None, "cat", 5, {"cat": 0}, (("cat", 0),) * 61, ("x",) * 61]:
            self.bad(reading, -1)
        self.assertEqual(len(carried(plain.cats(), (("cat", 0),) * 60)), 60)

    def test_the_first_wrong_thing(self):
        for thing in ["cat", ("cat",), ("cat", 3), ("cat", -1), ("cat", True), ("cat", False), ("cat", "0"),
                      ("dog", 0), ("*cat", 0), ("_", 0), (1, 0), None, 0, ("cat", 0, 0), {}, (["cat"], 0)]:
            self.bad((thing,), 0)
            self.bad([("cat", 0), ["big", 2], thing, None], 2)

    def test_lists(self):
        reading = [["the", 0], ["cat", 1]]
        self.assertEqual(carried(plain.cats(), reading), ("les", "minou"))
        self.assertEqual(reading, [["the", 0], ["cat", 1]])

    def test_plain_reading_and_text_of(self):
        self.assertEqual(plain_reading(["a", "b"]), (("a", 0), ("b", 0)))
        self.assertEqual(plain_reading(()), ())
        self.assertEqual(text_of([["a", 2], ("b", 0)]), ("a", "b"))
        self.assertEqual(text_of(()), ())


class AgainstThePlainTelling(unittest.TestCase):
    def test_books_made_by_chance(self):
        for seed in range(300):
            made = plain.some_book(seed, many=2 + seed % 4)
            for length in (0, 1, 2, 3, 5, 9, 17):
                reading = plain.some_reading(seed + length, made, length)
                pieces = plain.pieces(made, reading)
                page = tuple(token for piece in pieces for token in piece[3])
                self.assertEqual(carried(made, reading), page)
                names, told, standings = by_words(made, reading)
                self.assertEqual((names, told), (tuple(piece[2] for piece in pieces), page))
                self.assertTrue(all(len(standing[5]) <= 2 for standing in standings))

    def test_rows_of_any_tokens(self):
        for seed in range(200):
            made = plain.some_book(seed)
            chance = random.Random(seed)
            tokens = tuple((chance.choice(made.tongue.words + ("*a", "*n", "x", "else")), chance.randint(0, 2))
                           for _ in range(12))
            self.assertEqual(by_words(made, tokens)[1], plain.page(made, tokens))


if __name__ == "__main__":
    unittest.main()
