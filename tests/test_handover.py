import itertools
import random
import unittest

import brute
import plain
from keptacross.books import Book
from keptacross.carrying import BEGINNING, carried, finish, hear, plain_reading
from keptacross.errors import BadLot, BadReading, BadWork, Foreign, TooMany, Unlike
from keptacross.handover import THINGS, Prepared, by_hands, handed, papers, taken
from keptacross.outlooks import Outlook
from keptacross.roads import Road
from keptacross.styles import Style
from keptacross.terms import Term
from keptacross.tongues import Tongue
from keptacross.wordmaps import WordMap
from test_outlooks import counter, first_ways
from test_works import NO_READINGS, bad_works

ALL_LOTS = [lot for many in range(5) for lot in itertools.combinations(THINGS, many)]
NO_LOTS = (None, "held", ("things",), ("scope", "held"), ("held", "held"), (None,), (1,), {}, ("held", True), (("held",),),
           ["turn", "held"], 5)


def at_cut_plainly(book, standing, lot):
    """What is said at a cut, and the standing with which the next hand begins, told step by step."""
    said = ()
    if "held" not in lot:
        said = finish(book, standing)[1]
        standing = behind_plainly(book, standing)
    worth = {"held": standing[5], "scope": standing[:3], "turn": standing[4], "used": standing[3]}
    begun = {"held": (), "scope": ("", 0, ()), "turn": (), "used": ()}
    begun.update({thing: worth[thing] for thing in lot})
    return said, (*begun["scope"], begun["used"], begun["turn"], begun["held"])


def behind_plainly(book, standing):
    """The standing when all that is held back has been said, piece by piece."""
    names, _ = finish(book, standing)
    waiting = WordMap(standing[4])
    reading = standing[5]
    place = 0
    known = standing
    maps = dict(book.turns)
    for name in names:
        term = book[name] if name is not None else None
        width = len(term) if term else 1
        # The piece alone, carried by itself from what is known: does it say any word?
        _, said = finish(book, known[:5] + (reading[place:place + width],))
        if any(token[0] != "*" for token in said):
            waiting = WordMap()
        if term is not None and term.turn is not None:
            waiting = waiting.then(maps[term.turn])
        used = known[3]
        if term is not None and term.first is not None:
            used = tuple(sorted(set(used) | {name}))
        known = (*known[:3], used, waiting.pairs, ())
        for word, _ in reading[place:place + width]:
            chapter, quoted, met = known[:3]
            if word in book.tongue.headings:
                known = (word, 0, (), (), known[4], ())
                continue
            if word == book.tongue.quote:
                quoted = 1 - quoted
            if any(other.scope == ("behind", word) for other in book.terms):
                met = tuple(sorted(set(met) | {word}))
            known = (chapter, quoted, met, *known[3:])
        place += width
    return known[:5] + ((),)


def hands_plainly(book, chapters, lot):
    """What the hands say for chapters, word by word."""
    standing = BEGINNING
    page = ()
    for number, chapter in enumerate(chapters):
        if number:
            said, standing = at_cut_plainly(book, standing, lot)
            page += said
        for word, pick in chapter:
            _, said, standing = hear(book, standing, word, pick)
            page += said
    return page + finish(book, standing)[1]


def some_work(seed, book, many, length):
    chance = random.Random(seed)
    reading = plain.some_reading(seed, book, length)
    cuts = sorted(chance.randint(0, length) for _ in range(many - 1))
    return tuple(reading[start:end] for start, end in zip([0] + cuts, cuts + [length]))


class Hands(unittest.TestCase):
    def setUp(self):
        tongue = Tongue(("a", "b", "c", "h", "q"), headings=("h",), quote="q")
        turns = (("k", WordMap((("y", "yy"),))),)
        terms = (Term("one", ("a", "b"), (("x",),)), Term("two", ("a",), (("y",),), first=("*f", "y")),
                 Term("turning", ("c",), ((),), turn="k"), Term("late", ("b",), (("z",),), scope=("behind", "c")),
                 Term("loud", ("c", "c"), (("l",),), scope=("quoted",)), Term("inner", ("c", "a"), (("i",),), scope=("in", "h")))
        self.book = Book(tongue, terms, turns=turns)

    def standing(self, text):
        standing = BEGINNING
        for word in text:
            standing = hear(self.book, standing, word)[2]
        return standing

    def test_handed_and_taken(self):
        standing = self.standing(("h", "c", "c", "q", "a"))
        self.assertEqual((standing[:4], standing[5]), (("h", 1, ("c",), ()), (("a", 0),)))
        self.assertEqual(handed(self.book, standing, THINGS), ((), (standing[5], standing[:3], standing[4], standing[3])))
        self.assertEqual(handed(self.book, standing, ("held",)), ((), ((("a", 0),),)))
        said, paper = handed(self.book, standing, ("scope", "used"))
        self.assertEqual((said, paper), (("*f", "y"), (("h", 1, ("c",)), ("two",))))
        self.assertEqual(handed(self.book, brute.as_lists(standing), ["scope", "used"]), (said, paper))
        self.assertEqual(handed(self.book, standing, ()), (("*f", "y"), ()))
        self.assertEqual(taken(paper, ("scope", "used")), ("h", 1, ("c",), ("two",), (), ()))
        self.assertEqual(taken(brute.as_lists(paper), ["scope", "used"]), ("h", 1, ("c",), ("two",), (), ()))
        self.assertEqual(taken((), ()), BEGINNING)
        self.assertEqual(taken(((("a", 2),), (("y", "yy"),)), ("held", "turn")), ("", 0, (), (), (("y", "yy"),), (("a", 2),)))

    def test_a_turn_of_what_is_held(self):
        standing = self.standing(("h", "c"))
        self.assertEqual(standing[5], (("c", 0),))
        # What is held back is passed, too, when it is said.
        self.assertEqual(handed(self.book, standing, ("scope", "turn")), ((), (("h", 0, ("c",)), (("y", "yy"),))))

    def test_by_hands(self):
        work = (plain_reading(("a",)), plain_reading(("b", "c")), plain_reading(("a",)))
        whole = carried(self.book, sum(work, ()))
        self.assertEqual(whole, ("x", "*f", "yy"))
        self.assertEqual(by_hands(self.book, work, THINGS), whole)
        self.assertEqual(by_hands(self.book, work, ()), ("*f", "y", "b", "*f", "y"))
        self.assertEqual(by_hands(self.book, brute.as_lists(work), ["held"]), ("x", "*f", "y"))
        self.assertEqual(by_hands(self.book, work, ("turn", "used")), ("*f", "y", "b", "yy"))
        self.assertEqual(by_hands(self.book, ((), (), ()), ()), ())

    def test_all_four_things_are_enough(self):
        for seed in range(250):
            book = plain.some_book(seed)
            work = some_work(seed, book, 1 + seed % 6, 9)
            self.assertEqual(by_hands(book, work, THINGS), plain.page(book, sum(work, ())))

    def test_against_a_plain_telling(self):
        unlike = 0
        for seed in range(250):
            book = plain.some_book(seed)
            work = some_work(seed, book, 1 + seed % 6, 9)
            for lot in ALL_LOTS:
                said = by_hands(book, work, lot)
                self.assertEqual(said, hands_plainly(book, work, lot))
                unlike += said != plain.page(book, sum(work, ()))
        self.assertGreater(unlike, 500)

    def test_prepared(self):
        for seed in range(120):
            book = plain.some_book(seed)
            work = some_work(seed, book, 4, 9)
            for lot in (ALL_LOTS[seed % 16], ALL_LOTS[(seed * 7 + 3) % 16]):
                pieces = [Prepared(book, list(reading), list(lot)) for reading in work]
                paper = handed(book, BEGINNING, lot)[1]
                said, papers_seen = (), [paper]
                for piece in pieces[:3]:
                    told, paper = piece(brute.as_lists(paper))
                    said += told
                    papers_seen.append(paper)
                one, two, three = pieces[:3]
                for joined in ((one + two) + three, one + (two + three)):
                    self.assertEqual(joined(papers_seen[0]), (said, paper))
                    self.assertEqual((joined.readings, joined.lot, joined.book), (work[:3], lot, book))
                    self.assertEqual((len(joined), list(joined)), (3, list(work[:3])))
                self.assertEqual((two + three)(papers_seen[1]), (three_said(two, three, papers_seen[1])))
                # The last hand begins with the paper, and ends the text.
                standing = taken(paper, lot)
                for word, pick in work[3]:
                    told, standing = hear(book, standing, word, pick)[1:]
                    said += told
                self.assertEqual(said + finish(book, standing)[1], by_hands(book, work, lot))
                self.assertEqual((len(one), list(one), one.readings), (1, [work[0]], (work[0],)))

    def test_joined_in_any_grouping(self):
        for seed in range(60):
            book = plain.some_book(seed)
            work = some_work(seed, book, 4, 8)
            lot = ALL_LOTS[seed * 5 % 16]
            a, b, c, d = [Prepared(book, reading, lot) for reading in work]
            groupings = [((a + b) + c) + d, (a + (b + c)) + d, (a + b) + (c + d), a + ((b + c) + d), a + (b + (c + d))]
            for paper in [handed(book, BEGINNING, lot)[1], *some_papers(seed, book, lot)]:
                said, behind = (), paper
                for piece in (a, b, c, d):
                    told, behind = piece(behind)
                    said += told
                for joined in groupings:
                    self.assertIsInstance(joined, Prepared)
                    self.assertEqual(joined(paper), (said, behind))
                    self.assertEqual(joined(brute.as_lists(paper)), (said, behind))
            for joined in groupings:
                self.assertEqual((joined.book, joined.readings, joined.lot), (book, work, lot))
                self.assertEqual((len(joined), list(joined)), (4, list(work)))

    def test_joining_changes_nothing(self):
        one = Prepared(self.book, (("a", 0),), ("held",))
        other = Prepared(self.book, (("b", 0),), ("held",))
        both = one + other
        self.assertEqual((len(one), len(other), len(both)), (1, 1, 2))
        self.assertEqual(both(((),)), (("x",), ((),)))
        self.assertEqual(one(((),)), ((), ((("a", 0),),)))
        self.assertEqual((both + one).readings, ((("a", 0),), (("b", 0),), (("a", 0),)))

    def test_neither_of_the_joined_ones_is_changed(self):
        pieces = [Prepared(self.book, ((word, 0),), ("held", "scope")) for word in "abc"]
        pieces.append(pieces[0] + pieces[1])
        pieces.append(pieces[3] + pieces[2])
        paper = ((), ("", 0, ()))
        ahead = [(vars(piece).copy(), piece(paper), len(piece), list(piece)) for piece in pieces]
        for one, other in itertools.product(pieces, repeat=2):
            both = one + other
            self.assertEqual(both.readings, one.readings + other.readings)
            self.assertIsNot(both, one)
            self.assertIsNot(both, other)
            self.assertEqual([(vars(piece), piece(paper), len(piece), list(piece)) for piece in pieces], ahead)
        # Joined with itself, too, a piece is as it was.
        self.assertEqual((pieces[0] + pieces[0]).readings, ((("a", 0),), (("a", 0),)))
        self.assertEqual(pieces[0].readings, ((("a", 0),),))

    def test_unlike_pieces(self):
        one = Prepared(self.book, (), ("held",))
        bare = Book(self.book.tongue)
        unlike = [(Prepared(bare, (), ()), "books"), (Prepared(bare, (), ("held",)), "books"),
                  (Prepared(self.book, (), ()), "lots"), (Prepared(self.book, (), ("held", "used")), "lots")]
        for other, word in unlike:
            for first, second in ((one, other), (other, one), (one + one, other), (other + other, one), (one, other + other)):
                before = (vars(first).copy(), vars(second).copy())
                with self.assertRaises(Unlike) as caught:
                    first + second
                self.assertEqual(caught.exception.word, word)
                self.assertEqual((vars(first), vars(second)), before)
        equal = Book(self.book.tongue, self.book.terms, turns=self.book.turns)
        self.assertEqual(len(one + Prepared(equal, (), ["held"])), 2)

    def test_errors(self):
        for lot in NO_LOTS:
            for ask in (lambda: handed(self.book, BEGINNING, lot), lambda: taken((), lot),
                        lambda: by_hands(self.book, ((),), lot), lambda: Prepared(self.book, (), lot),
                        lambda: papers(counter(301), Style.free(("p",)), lot)):
                with self.assertRaises(BadLot) as caught:
                    ask()
                self.assertIs(caught.exception.lot, lot)
        for chapters, number in bad_works():
            with self.assertRaises(BadWork) as caught:
                by_hands(Book(Tongue(("a", "b"))), chapters, None)
            self.assertEqual(caught.exception.number, number)
        for reading in NO_READINGS:
            self.assertRaises(BadReading, Prepared, Book(Tongue(("a", "b"))), reading, None)


def some_papers(seed, book, lot):
    """Papers that are handed over at cuts of a reading made by chance."""
    standing = BEGINNING
    found = []
    for word, pick in plain.some_reading(seed + 1000, book, 6):
        standing = hear(book, standing, word, pick)[2]
        found.append(handed(book, standing, lot)[1])
    return found


def three_said(two, three, paper):
    said, paper = two(paper)
    told, paper = three(paper)
    return said + told, paper


class Papers(unittest.TestCase):
    def test_by_hand(self):
        book = Book(Tongue(("a", "b")), (Term("t", ("a", "b"), (("x",), ("y",))), Term("u", ("b",), (("v",),), first=("f",))))
        style = Style.free(("a", "b"))
        self.assertEqual(papers(book, style, ()), ((),))
        self.assertEqual(papers(book, style, ["held"]), (((),), ((("a", 0),),), ((("a", 1),),)))
        self.assertEqual(papers(book, style, ("used",)), (((),), (("u",),)))
        # No cut stands ahead of all words, or behind the last one.
        once = Style(((("b", 1),), (("a", 2),), ()), (2,))
        self.assertEqual(papers(book, once, ("used",)), ((("u",),),))
        self.assertEqual(papers(book, Style(((("b", 1),), ()), (1,)), ("used",)), ())
        self.assertEqual(papers(book, Style(((),), (0,)), ()), ())

    def test_against_a_plain_listing(self):
        several = 0
        for seed in range(160):
            book = plain.some_book(seed, many=3, terms=3)
            style = brute.some_style(seed, book.tongue.words)
            outlook = brute.asked(lambda: Outlook(Road(book), style))
            if outlook is None:
                self.assertRaises(TooMany, papers, book, style, ())
                continue
            lot = ALL_LOTS[seed % 16]
            found = set()
            for number in range(len(outlook)):
                for word, pick, _, behind in outlook.follow(number):
                    room, (standing,) = outlook[behind]
                    if style.let(room):
                        found.add(handed(book, standing, lot)[1])
            self.assertEqual(papers(book, style, lot), tuple(sorted(found)))
            # Each paper of a cut in a short reading is one of them.
            for reading in brute.readings(style, book.picks, 3)[-40:]:
                for place in range(1, len(reading)):
                    standing = BEGINNING
                    for word, pick in reading[:place]:
                        standing = hear(book, standing, word, pick)[2]
                    self.assertIn(handed(book, standing, lot)[1], found)
            several += len(found) > 2
        self.assertGreater(several, 40)

    def test_errors(self):
        with self.assertRaises(Foreign) as caught:
            papers(counter(301), Style.free(("a", "p", "q")), ())
        self.assertEqual(caught.exception.word, "p")
        with self.assertRaises(TooMany) as caught:
            papers(counter(301), Style.free(("a",)), ())
        self.assertEqual(caught.exception.word, "standing")
        self.assertEqual(len(papers(counter(300), Style.free(("a",)), ("turn",))), 300)
        self.assertEqual(len(papers(first_ways(8), Style.free(tuple("abcdefgh")), ("used",))), 255)


if __name__ == "__main__":
    unittest.main()
