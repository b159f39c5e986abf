import itertools
import unittest

import brute
import plain
from keptacross.books import Book
from keptacross.carrying import BEGINNING, finish, hear
from keptacross.errors import Foreign, NoTerm, TooMany
from keptacross.fights import Fight, fights
from keptacross.pieces import holding, pieces
from keptacross.styles import Style
from keptacross.terms import Term
from keptacross.tongues import Tongue
from keptacross.uses import Use, judge_use
from test_outlooks import LETTERS, counter, first_ways

X = (("x",),)


def reading_of(text):
    return tuple((word, 0) for word in text)


def uses(book, text, name):
    return any(piece[2] == name for piece in plain.pieces(book, reading_of(text)))


def fight_in(book, text, one, other):
    return any({one, other} <= set(holding(book, text, place))
               for place, _, _, _ in plain.pieces(book, reading_of(text)))


def closed(book, style, name, table):
    """Judges a table of states plainly."""
    def form(row):
        return (isinstance(row, tuple) and len(row) == 2 and type(row[0]) is int and 0 <= row[0] < len(style)
                and isinstance(row[1], tuple))

    def good(row, rows):
        room, standing = row
        for word, leads in style.let(room):
            names, _, behind = hear(book, standing, word)
            if name in names or (leads, behind) not in rows:
                return False
        return not style.is_end(room) or name not in finish(book, standing)[0]

    return brute.judge(table, form, [(0, BEGINNING)], good)


class Uses(unittest.TestCase):
    def test_the_least_text(self):
        book = plain.cats()
        style = plain.free(book)
        self.assertEqual(Use(book, style, "d").text, ("sees", "big", "cat"))
        self.assertEqual(Use(book, style, "c").text, ("big", "cat"))
        use = Use(book, style, "a")
        self.assertEqual((use.text, use.table, bool(use)), (("the",), None, True))

    def test_the_text_is_ended(self):
        book = Book(Tongue(("a", "b", "c")), (Term("t", ("a", "a"), X),))
        style = Style(((("a", 0), ("b", 1)), (("c", 2),), ()), (2,))
        self.assertEqual(Use(book, style, "t").text, ("a", "a", "b", "c"))

    def test_used_at_the_end_alone(self):
        book = Book(Tongue(("a", "b")), (Term("l", ("a", "b"), X), Term("s", ("a",), X)))
        style = Style(((("a", 1),), (("b", 1),)), (1,))
        self.assertEqual(Use(book, style, "s").text, ("a",))
        other = Style(((("a", 1),), (("b", 0),)), (0,))
        self.assertIs(bool(Use(book, other, "s")), False)

    def test_never_used(self):
        book = Book(Tongue(("a", "b")), (Term("l", ("a", "b"), X), Term("s", ("a",), X)))
        style = Style(((("a", 1),), (("b", 0),)), (0,))
        use = Use(book, style, "s")
        held = ("", 0, (), (), (), (("a", 0),))
        self.assertEqual((use.text, use.table, bool(use)), (None, ((0, BEGINNING), (1, held)), False))

    def test_against_a_plain_search(self):
        never = 0
        for seed in range(120):
            book = plain.some_book(seed, many=2 + seed % 2, terms=5)
            style = brute.some_style(seed, book.tongue.words)
            short = brute.texts(style, 5)
            for name in book.names:
                use = brute.asked(lambda: Use(book, style, name))
                if use is None:
                    continue
                text = next((text for text in short if uses(book, text, name)), None)
                self.assertEqual(bool(use), use.text is not None)
                self.assertEqual(use.table is None, bool(use))
                if use.text is None:
                    never += 1
                    self.assertIsNone(text)
                    self.assertIsNone(judge_use(book, style, name, use.table))
                elif len(use.text) <= 5:
                    self.assertEqual(use.text, text)
                else:
                    self.assertIsNone(text)
                    self.assertTrue(style.reads(use.text) and uses(book, use.text, name))
        self.assertGreater(never, 20)

    def test_just_300_states_and_more(self):
        style = Style.free(("a",))
        for many, right in [(300, True), (301, False)]:
            book = counter(many)
            never = Term("n", ("a",), ((),))
            book = Book(book.tongue, book.terms + (never,), turns=book.turns)
            if right:
                self.assertEqual(len(Use(book, style, "n").table), 300)
                self.assertEqual(fights(book, style), (("t", "n"),))
                continue
            for name in ("n", "t"):
                with self.assertRaises(TooMany) as caught:
                    Use(book, style, name)
                self.assertEqual(caught.exception.word, "standing")
            for ask in (lambda: Fight(book, style, "n", "t"), lambda: fights(book, style)):
                with self.assertRaises(TooMany) as caught:
                    ask()
                self.assertEqual(caught.exception.word, "standing")
            self.assertIsNotNone(judge_use(book, style, "n", ((0, BEGINNING),)))

    def test_only_picks_0_count(self):
        terms = [Term(name, ("a", "a", name), (("x",), ("y",), ())) for name in LETTERS]
        book = Book(Tongue(tuple(LETTERS)), terms)
        self.assertEqual(len(Use(book, Style.free(("a", "b")), "h").table), 3)

    def test_errors(self):
        book = first_ways(3)
        foreign = Style.free(("a", "p", "z"))
        for ask in (lambda name: Use(book, foreign, name), lambda name: judge_use(book, foreign, name, None),
                    lambda name: Fight(book, foreign, name, "z"), lambda name: Fight(book, foreign, "a", name)):
            for name in ("q", "", "zz"):
                with self.assertRaises(NoTerm) as caught:
                    ask(name)
                self.assertEqual(caught.exception.name, name)
        for ask in (lambda: Use(book, foreign, "a"), lambda: judge_use(book, foreign, "a", None),
                    lambda: Fight(book, foreign, "a", "b"), lambda: fights(book, foreign),
                    lambda: Use(counter(301), foreign, "t")):
            with self.assertRaises(Foreign) as caught:
                ask()
            self.assertEqual(caught.exception.word, "p")


class JudgingUses(unittest.TestCase):
    def test_spoilt_tables(self):
        judged = 0
        for seed in range(60):
            book = plain.some_book(seed, many=2, terms=4)
            style = brute.some_style(seed, book.tongue.words)
            for name in book.names:
                use = brute.asked(lambda: Use(book, style, name))
                if use is None or use or len(use.table) > 12:
                    continue
                for table in brute.spoilt(use.table, seed, tuples=(1,)):
                    judged += 1
                    self.assertEqual(judge_use(book, style, name, table), closed(book, style, name, table), table)
        self.assertGreater(judged, 500)

    def test_by_hand(self):
        book = Book(Tongue(("a", "b")), (Term("l", ("a", "b"), X), Term("s", ("a",), X)))
        style = Style(((("a", 1),), (("b", 0),)), (0,))
        first, second = Use(book, style, "s").table
        self.assertIsNone(judge_use(book, style, "s", (second, first, first)))
        self.assertEqual(judge_use(book, style, "s", (first,)), 0)
        self.assertEqual(judge_use(book, style, "s", (second,)), -1)
        self.assertEqual(judge_use(book, style, "s", (first, second, (2, BEGINNING))), 2)
        self.assertEqual(judge_use(book, style, "s", (first, second, (True, BEGINNING))), 2)
        self.assertEqual(judge_use(book, style, "l", (first, second)), 1)
        held = (0, ("", 0, (), (), (), (("a", 0),)))
        self.assertEqual(judge_use(book, style, "s", (first, second, held)), 2)
        self.assertIsNone(judge_use(book, style, "s", brute.as_lists((first, second))))

    def test_tables_are_not_bounded(self):
        book, style = counter(400), Style.free(("a",))
        book = Book(book.tongue, book.terms + (Term("n", ("a",), ((),)),), turns=book.turns)
        standing, table = BEGINNING, []
        for _ in range(400):
            table.append((0, standing))
            standing = hear(book, standing, "a")[2]
        self.assertIsNone(judge_use(book, style, "n", table))
        self.assertEqual(judge_use(book, style, "n", table[:-1]), 398)
        self.assertEqual(judge_use(book, style, "t", table), 0)


class Fights(unittest.TestCase):
    def test_two_of_one_length(self):
        book = Book(Tongue(("a", "b")), (Term("p", ("a", "b"), X), Term("q", ("a",), X), Term("r", ("a", "b"), X)))
        style = Style.free(("a", "b"))
        self.assertEqual(fights(book, style), (("p", "q"), ("p", "r"), ("r", "q")))
        self.assertEqual(Fight(book, style, "q", "r").text, ("a", "b"))
        self.assertIs(bool(Fight(book, style, "q", "r")), True)

    def test_they_fight_only_where_a_piece_begins(self):
        book = Book(Tongue(("a", "b", "c")), (Term("l", ("c", "a"), X), Term("p", ("a", "b"), X), Term("q", ("a",), X)))
        style = Style(((("c", 1),), (("a", 2),), (("a", 2), ("b", 3)), ()), (3,))
        self.assertEqual(Fight(book, style, "p", "q").text, ("c", "a", "a", "b"))
        short = Style(((("c", 1),), (("a", 2),), (("b", 3),), ()), (3,))
        self.assertIsNone(Fight(book, short, "p", "q").text)
        self.assertIs(bool(Fight(book, short, "p", "q")), False)
        self.assertEqual(fights(book, short), ())

    def test_at_the_end_of_the_text(self):
        book = Book(Tongue(("a", "b")), (Term("l", ("a", "a", "b"), X), Term("p", ("a", "a"), X), Term("q", ("a",), X)))
        style = Style.free(("a", "b"))
        self.assertEqual(Fight(book, style, "p", "q").text, ("a", "a"))
        self.assertEqual(Fight(book, style, "q", "l").text, ("a", "a", "b"))

    def test_against_a_plain_search(self):
        found = 0
        for seed in range(80):
            book = plain.some_book(seed, many=2 + seed % 2, terms=5)
            style = brute.some_style(seed, book.tongue.words)
            short = brute.texts(style, 5)
            told = brute.asked(lambda: fights(book, style))
            if told is None:
                continue
            pairs = {frozenset(pair) for pair in told}
            for one, other in itertools.permutations(book.names, 2):
                fight = Fight(book, style, one, other)
                self.assertEqual(bool(fight), frozenset((one, other)) in pairs)
                text = next((text for text in short if fight_in(book, text, one, other)), None)
                if fight.text is None or len(fight.text) > 5:
                    self.assertIsNone(text)
                else:
                    found += 1
                    self.assertEqual(fight.text, text)
                    ahead = one if (one, other) in told else other
                    start = [place for place, _, _, _ in pieces(book, reading_of(text))
                             if {one, other} <= set(holding(book, text, place))][0]
                    self.assertEqual([name for name in holding(book, text, start) if name in (one, other)][0], ahead)
            ranks = [(book.names.index(one), book.names.index(other)) for one, other in told]
            self.assertEqual(ranks, sorted(set(ranks)))
        self.assertGreater(found, 50)


if __name__ == "__main__":
    unittest.main()
