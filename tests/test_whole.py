"""Over the whole program: the same asked twice and by turns, lists in the place of tuples, lines written and read."""

import random
import unittest

import brute
import plain
from keptacross import (able, alike, archives, atonce, begun, carrying, changes, commuting, detours, fights, fulls, growth,
                        handover, journeys, keeping, known, knownlook, logtext, needless, notes, outlooks, pieces, questions,
                        readers, renewals, rounds, scopes, seams, shelves, sources, sourcetexts, sure, telling, together,
                        turnback, turners, turnwords, uses, webs, works, worktext)
from keptacross.booktext import read_book, read_term, write_book, write_term
from keptacross.books import Book
from keptacross.errors import AcrossError
from keptacross.roads import Road
from keptacross.rules import Rules
from keptacross.styles import Style
from keptacross.styletext import read_style, write_style
from keptacross.terms import Term
from keptacross.tongues import Tongue
from keptacross.wants import Words, wanted
from keptacross.wordmaps import WordMap
from test_commuting import near_change
from test_webs import some_web


def told(thing):
    """All that an answer tells, as plain values: of an object, its listed attributes, its length and what it goes over."""
    if isinstance(thing, (str, int, type(None))):
        return thing
    if isinstance(thing, (tuple, list)):
        return tuple(told(part) for part in thing)
    if isinstance(thing, Book):
        return write_book(thing)
    kept = {name: told(worth) for name, worth in vars(thing).items()
            if name[0] != "_" and isinstance(worth, (str, int, tuple, type(None)))}
    if type(thing).__name__ in ("SourceTexts",):
        return kept, tuple(thing.upto(4))
    through = told(list(thing)) if hasattr(thing, "__iter__") else None
    return type(thing).__name__, kept, bool(thing), through


def outcome(ask, given):
    """What a call tells, or the error that it raises, with what that bears."""
    try:
        return told(ask(*given))
    except AcrossError as error:
        return type(error).__name__, sorted((name, told(worth)) for name, worth in vars(error).items())


def calls(seed):
    """Calls of all parts of the program: functions, and arguments that are tuples where they can be."""
    chance = random.Random(seed)
    book = plain.some_book(seed, many=2, terms=3)
    words = book.tongue.words
    style = brute.some_style(seed, words)
    road, other = Road(book), Road(plain.some_book(seed + 3, many=2, terms=2))
    reading = chance.choice(brute.readings(style, 3, 3)[-60:])
    text = tuple(word for word, _ in reading)
    page = plain.page(book, reading)
    menu = tuple({repr(change): change for change in [near_change(chance, book) for _ in range(3)]}.values())
    want = chance.choice([Words(words[:1]), other])
    web = some_web(seed)
    house, lot = web.houses[0]
    name = book.names[0] if book.names else "none"
    turns = tuple((word, plain.some_map(chance, list(words))) for word in ("k", "m"))
    links = ((0, 0), (0, 1), (1, 0))
    shelf = shelves.Shelf(book, menu)
    rules = Rules((("x", "y"),))
    yield from [
        (carrying.carried, (book, reading)), (road, (reading,)), (pieces.pieces, (book, reading)),
        (lambda told_text: pieces.holding(book, told_text, 0), (text,)), (uses.Use, (book, style, name)),
        (fights.fights, (book, style)), (growth.Growth, (road, style)), (keeping.Keeping, (road, rules, style)),
        (able.Able, (road, rules, style)), (atonce.AtOnce, (road, rules, style)), (alike.Alike, (road, other, style)),
        (lambda: begun.classes(outlooks.Outlook(road, style)), ()), (needless.needless, (book, style)),
        (scopes.same_scopes, (book, style, name)), (known.Known, (road, want, style)), (notes.Notes, (book, want, style)),
        (telling.told_by, (road, page, want, style)), (sources.Sources, (road, page, style)),
        (sourcetexts.SourceTexts, (road, page, style)), (sure.Sure, (road, page, want, style)),
        (questions.Questions, (road, page, want, style)), (wanted, (want, text)),
        (changes.changed_by, (book, menu)), (shelves.Shelf, (book, menu)), (webs.Web, (web.houses, web.books)),
        (web.after, (house, web.leaving(house)[:1])), (journeys.Journeys, (web, house)), (rounds.Round, (web, house, ())),
        (rounds.keepers, (web, house)), (together.left_out, (web, house)), (turners.Turners, (turns,)),
        (lambda row: turnback.ring(turners.Turners(turns), row), (("k", "m"),)),
        (lambda row: turnwords.gathered(turners.Turners(turns), row), (words,)),
        (lambda one, two: commuting.Commuting(book, one, two, style), (menu[0], menu[-1])),
        (commuting.all_commute, (shelf, style)), (renewals.Renewals, (shelf, style)),
        (renewals.renewed, (shelf, style, page, (1, len(menu)))), (detours.leading_back, (shelf, style)),
        (works.turned, (book, shelf[len(shelf) - 1], reading)),
        (works.turned_chapters, (book, shelf[len(shelf) - 1], (reading, reading))),
        (handover.by_hands, (book, (reading, (), reading), ("scope", "used"))),
        (lambda paper, things: handover.Prepared(book, reading, things)(paper), (((), ()), ("held", "turn"))),
        (handover.papers, (book, style, ("held", "used"))), (seams.Seams, (book, style, ("held", "scope"))),
        (seams.least_lots, (book, style)), (readers.Readers, (book, (reading, reading), links, (0, 1), (1,))),
        (fulls.least_fulls, (book, (reading, reading), links, (0,))), (logtext.write_log, (menu,)),
        (worktext.write_work, ((reading, (), reading),)), (renewing, (style, book, reading, menu)),
        (lambda table: knownlook.judge_known(road, want, style, table), (table_of(road, want, style),)),
    ]


def table_of(road, want, style):
    """The table of a want that is known, or nothing."""
    found = brute.asked(lambda: known.Known(road, want, style))
    return found.table or () if found is not None else ()


def renewing(style, book, reading, menu):
    """An archive in which a page is entered, and tried behind changes."""
    archive = archives.Archive(style, book)
    archive.enter(reading)
    return archives.tried_within(archive, (menu[:1], menu[1:]), 0), list(archive), archive.stale


class Whole(unittest.TestCase):
    def test_twice_by_turns_and_with_lists(self):
        errors = 0
        for seed in range(16):
            asked = list(calls(seed))
            first = [outcome(ask, given) for ask, given in asked]
            # The other way round, with lists; and then again as at first.
            listed = [(ask, tuple(brute.as_lists(part) for part in given)) for ask, given in asked]
            before = told_arguments(listed)
            for (ask, given), expected in reversed(list(zip(listed, first))):
                found = outcome(ask, given)
                self.assertEqual(found, expected, (ask, seed))
            self.assertEqual(told_arguments(listed), before)
            self.assertEqual([outcome(ask, given) for ask, given in asked], first)
            errors += sum(isinstance(found, tuple) and found[:1] == ("TooMany",) for found in first)
        self.assertLess(errors, 16 * 8)

    def test_lines(self):
        for seed in range(150):
            chance = random.Random(seed)
            book = plain.some_book(seed)
            self.assertEqual(read_book(list(write_book(book))), book)
            for term in book:
                self.assertEqual(read_term(write_term(term)), term)
            style = brute.some_style(seed, book.tongue.words)
            self.assertEqual(read_style(write_style(style)), style)
            log = tuple(near_change(chance, book) for _ in range(6))
            lines = logtext.write_log(log)
            self.assertEqual((logtext.read_log(lines), logtext.taken_up(lines)), (log, (log, len(lines))))
            self.assertEqual(changes.changed_by(book, logtext.read_log(lines)), changes.changed_by(book, log))
            work = tuple(plain.some_reading(seed + k, book, k) for k in range(1 + seed % 6))
            self.assertEqual(worktext.read_work(worktext.write_work(work)), work)
            self.assertEqual(works.turned_chapters(book, book, worktext.read_work(worktext.write_work(work))), ())

    def test_what_is_passed_as_a_list_is_kept_as_a_tuple(self):
        tongue = Tongue(["a", "h"], headings=["h"], quote="a")
        term = Term("t", ["a", "_", "a"], [["_", "x"]], scope=["in", "h"], first=["_"], turn="k")
        book = Book(tongue, [term], turns=[["k", WordMap([["x", "y"]])]])
        self.assertEqual(vars(tongue), vars(Tongue(("a", "h"), headings=("h",), quote="a")))
        self.assertEqual((term.pattern, term.ways, term.scope, term.first),
                         (("a", "_", "a"), (("_", "x"),), ("in", "h"), ("_",)))
        self.assertEqual((book.terms, book.turns[0][1].pairs), ((term,), (("x", "y"),)))
        self.assertEqual(Style([[["a", 0]]], [0]).rooms, ((("a", 0),),))
        self.assertEqual(Rules([["x"], ["y"]]).rows, (("x",), ("y",)))
        self.assertEqual(Words(["a"]).lot, ("a",))
        self.assertEqual(turners.Turners([["k", book.turns[0][1]]]).turns, book.turns)
        web = webs.Web([["h", ["x"]]], [["h", "h", [["x", "x"]]]])
        self.assertEqual((web.houses, web.books), ((("h", ("x",)),), (("h", "h", (("x", "x"),)),)))
        self.assertEqual(shelves.Shelf(book, [["first", "t", ["_", "x"]]]).menu, (("first", "t", ("_", "x")),))
        piece = handover.Prepared(book, [["a", 0]], ["held"])
        self.assertEqual((piece.readings, piece.lot), (((("a", 0),),), ("held",)))


def told_arguments(asked):
    return [told(given) for _, given in asked]


if __name__ == "__main__":
    unittest.main()
