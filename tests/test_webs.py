import itertools
import random
import unittest

import brute
from keptacross.errors import BadJourney, BadWeb, NoHouse, NoWord, TooMany, Unlike
from keptacross.journeys import Journeys, judge_journeys
from keptacross.rounds import Round, keepers, spare_books
from keptacross.together import Together, judge_apart, left_out
from keptacross.webs import Web

HOUSES = (("east", ("in", "on")), ("north", ("a", "b", "c")), ("west", ("x",)))
BOOKS = (("north", "east", (("a", "in"), ("b", "on"), ("c", "on"))), ("east", "north", (("in", "b"), ("on", "a"))),
         ("north", "north", (("a", "b"), ("b", "c"), ("c", "a"))), ("east", "east", (("in", "on"), ("on", "in"))))
NO_HOUSES = (None, "", "nowhere", 0, True, ("east",), [], ["east"], {})
SIX = tuple("abcdef")


def some_web(seed):
    """A web made by chance."""
    chance = random.Random(seed)
    names = sorted(chance.sample(["e", "n", "s", "w"], chance.randint(1, 3)))
    houses = tuple((name, tuple(sorted(chance.sample("abcd", chance.randint(1, 3))))) for name in names)
    words = dict(houses)
    books = []
    for _ in range(chance.randint(0, 5)):
        start, end = chance.choice(names), chance.choice(names)
        books.append((start, end, tuple((word, chance.choice(words[end])) for word in words[start])))
    return Web(houses, tuple(books))


def gone(web, house, journey):
    """Where a journey from a house ends, and its images; None if it is none."""
    images = dict(web.houses)[house]
    for number in journey:
        if type(number) is not int or not 0 <= number < len(web.books) or web.books[number][0] != house:
            return None
        house, images = web.books[number][1], tuple(dict(web.books[number][2])[word] for word in images)
    return house, images


def journeys_within(web, house, length):
    """All journeys from a house with at most so many word books, in order, and where they lead."""
    found = [((), *gone(web, house, ()))]
    level = [()]
    for _ in range(length):
        level = [journey + (number,) for journey in level for number in range(len(web.books))
                 if gone(web, house, journey + (number,))]
        found += [(journey, *gone(web, house, journey)) for journey in level]
    return found


def table_plainly(web, house):
    """The table of journeys, as [38] tells."""
    nodes, ways = [gone(web, house, ())], [()]
    rows = []
    for at, (here, images) in enumerate(nodes):
        follows = []
        for number, (start, end, pairs) in enumerate(web.books):
            if start == here:
                node = (end, tuple(dict(pairs)[word] for word in images))
                if node not in nodes:
                    nodes.append(node)
                    ways.append(ways[at] + (number,))
                follows.append((number, nodes.index(node)))
        rows.append((here, images, ways[at], tuple(follows)))
    return tuple(rows)


def six_words(*maps):
    """A web with one house of six words, and such maps of the words."""
    return Web((("h", SIX),), tuple(("h", "h", tuple(zip(SIX, images))) for images in maps))


class Webs(unittest.TestCase):
    def test_attributes(self):
        web = Web(brute.as_lists(HOUSES), brute.as_lists(BOOKS))
        self.assertEqual((web.houses, web.books, len(web), list(web)), (HOUSES, BOOKS, 3, list(HOUSES)))
        self.assertEqual(web, Web(HOUSES, BOOKS))
        self.assertNotEqual(web, Web(HOUSES, BOOKS[:3]))
        self.assertNotEqual(web, Web(HOUSES[:2], BOOKS))
        self.assertIs(web == HOUSES, False)
        self.assertEqual(Web(HOUSES).books, ())
        for name in ("east", "north", "west"):
            self.assertIs(name in web, True)
        for name in NO_HOUSES:
            self.assertIs(name in web, False)

    def test_words_and_books(self):
        web = Web(HOUSES, BOOKS)
        self.assertEqual([web.words_of(name) for name, _ in web], [words for _, words in HOUSES])
        self.assertEqual([web.leaving(name) for name, _ in web], [(1, 3), (0, 2), ()])

    def test_after(self):
        web = Web(HOUSES, BOOKS)
        self.assertEqual(web.after("north", ()), ("north", ("a", "b", "c")))
        self.assertEqual(web.after("north", [2, 0]), ("east", ("on", "on", "in")))
        self.assertEqual(web.after("north", (2, 0, 1)), ("north", ("a", "a", "b")))
        self.assertEqual(web.after("west", ()), ("west", ("x",)))
        self.assertEqual(web.after("north", (2,) * 3001), ("north", ("b", "c", "a")))

    def test_no_houses(self):
        web = Web(HOUSES, BOOKS)
        for name in NO_HOUSES:
            for ask in (web.words_of, web.leaving, lambda house: web.after(house, None), lambda house: left_out(web, house),
                        lambda house: Journeys(web, house), lambda house: judge_journeys(web, house, ()),
                        lambda house: Together(web, house, "q", "r"), lambda house: keepers(web, house),
                        lambda house: judge_apart(web, house, "q", "r", ()), lambda house: Round(web, house, None)):
                with self.assertRaises(NoHouse) as caught:
                    ask(name)
                self.assertIs(caught.exception.name, name)

    def test_no_journeys(self):
        web = Web(HOUSES, BOOKS)
        journeys = Journeys(web, "north")
        for journey, place in [(None, -1), ("", -1), ("0", -1), (0, -1), ({}, -1), ((4,), 0), ((-1,), 0), ((True,), 0),
                               ((False,), 0), ((0, 0), 1), ((0, 3, 1, 2, 3), 4), ((2, "0"), 1), ((2, (0,)), 1),
                               ((2, None), 1), ((2, []), 1), ([0, True], 1), ((10 ** 39,), 0), ((2, 0, False), 2)]:
            for ask in (lambda: web.after("north", journey), lambda: journeys.along(journey),
                        lambda: Round(web, "north", journey)):
                with self.assertRaises(BadJourney) as caught:
                    ask()
                self.assertEqual(caught.exception.number, place)

    def test_bad_houses(self):
        seven = tuple("abcdefg")
        for houses in (None, (), [], "h", {}, HOUSES[::-1], (HOUSES[0],) * 2, (("h", ()),), (("h", seven),),
                       tuple((word, ("x",)) for word in seven), (("h", ("b", "a")),), (("h", ("a", "a")),), (("h", "a"),),
                       ((5, ("a",)),), (("", ("a",)),), (("h", (1,)),), (("h",),), (("h", ("a",), ()),), ("ha",),
                       (("H", ("a",)),), (("h", ("*a",)),), (("h", None),), HOUSES + (None,), ((["h"], ("a",)),)):
            with self.assertRaises(BadWeb) as caught:
                Web(houses, None)
            self.assertEqual(caught.exception.word, "houses")
        self.assertEqual(len(Web(tuple((word, SIX) for word in SIX))), 6)

    def test_bad_books(self):
        good = BOOKS[0]
        for book in (None, (), "abc", good[:2], good + ((),), ("nowhere",) + good[1:], ("north", "nowhere", good[2]),
                     ("north", "west", good[2]), ("east", "east", good[2]), ("north", "east", good[2][:2]),
                     ("north", "east", good[2][::-1]), ("north", "east", good[2] + (("d", "in"),)),
                     ("north", "east", good[2][:2] + (("c", "a"),)), ("north", "east", good[2][:2] + (("c",),)),
                     ("north", "east", good[2][:2] + (("c", "in", "on"),)), ("north", "east", good[2][:2] + ("cc",)),
                     ("north", "east", good[2][:1] + good[2][:2]), ("north", "east", None), ("north", "east", {}),
                     (["north"], "east", good[2]), ("north", ["east"], good[2]), ("north", 5, good[2]),
                     ("north", {}, good[2]), ("north", "east", good[2][:2] + (("c", None),))):
            with self.assertRaises(BadWeb) as caught:
                Web(HOUSES, BOOKS[:2] + (book,))
            self.assertEqual(caught.exception.word, "books")
        # A string is no pair, although it could be gone through like one.
        with self.assertRaises(BadWeb):
            Web((("h", ("a", "b")),), (("h", "h", ("ab", "ba")),))
        for books in (None, "", {}, BOOKS * 3 + (good,)):
            with self.assertRaises(BadWeb) as caught:
                Web(HOUSES, books)
            self.assertEqual(caught.exception.word, "books")
        self.assertEqual(len(Web(HOUSES, BOOKS * 3).books), 12)


class Tables(unittest.TestCase):
    def test_by_hand(self):
        web = Web(HOUSES[:2], BOOKS[:2])
        journeys = Journeys(web, "east")
        self.assertEqual(journeys.table, (("east", ("in", "on"), (), ((1, 1),)), ("north", ("b", "a"), (1,), ((0, 2),)),
                                          ("east", ("on", "in"), (1, 0), ((1, 3),)),
                                          ("north", ("a", "b"), (1, 0, 1), ((0, 0),))))
        self.assertEqual((len(journeys), list(journeys)), (4, list(journeys.table)))
        self.assertEqual([journeys.along((1, 0) * k) for k in range(4)], [0, 2, 0, 2])
        self.assertEqual(journeys.along([1, 0, 1]), 3)
        self.assertEqual(journeys.place_of("north", ["b", "a"]), 1)
        for node in [("north", ("a", "a")), ("nowhere", ("a", "b")), (None, None), ("east", ("a",)), (True, 1), ([], {})]:
            self.assertIsNone(journeys.place_of(*node))
        self.assertEqual(Journeys(Web(HOUSES, BOOKS), "west").table, (("west", ("x",), (), ()),))

    def test_against_a_plain_telling(self):
        rows = 0
        for seed in range(120):
            web = some_web(seed)
            for name, _ in web:
                journeys = Journeys(web, name)
                self.assertEqual(journeys.table, table_plainly(web, name))
                self.assertIsNone(judge_journeys(web, name, journeys.table))
                least = {}
                for journey, house, images in journeys_within(web, name, 3):
                    number = journeys.along(journey)
                    self.assertEqual(journeys.table[number][:2], (house, images))
                    self.assertEqual(journeys.place_of(house, images), number)
                    self.assertEqual(journeys.table[number][2], least.setdefault((house, images), journey))
                rows += len(journeys)
        self.assertGreater(rows, 600)

    def test_just_400_rows_and_more(self):
        journeys = Journeys(four_hundred(0), "h")
        self.assertEqual(len(journeys), 400)
        self.assertIsNone(judge_journeys(four_hundred(0), "h", journeys.table))
        self.assertEqual([name for name, _ in keepers(four_hundred(0), "h")], ["h", "i", "j"])
        self.assertEqual(spare_books(four_hundred(0)), ())
        big = four_hundred(1)
        self.assertEqual(len(Journeys(big, "i")), 1)
        for ask in (lambda: Journeys(big, "h"), lambda: keepers(big, "h"), lambda: spare_books(big)):
            with self.assertRaises(TooMany) as caught:
                ask()
            self.assertEqual(caught.exception.word, "row")

    def test_spoilt_tables(self):
        wrong = set()
        for seed in (3, 8, 11, 20, 31, 45):
            web = some_web(seed)
            house = web.houses[0][0]
            table = Journeys(web, house).table[:]
            others = [name for name, _ in web] + [web.words_of(house), ((0, 0),), ((True, 0),), ((0, False),)]
            for other in brute.spoilt(table, seed, others=others):
                judged = judge_journeys(web, house, other)
                self.assertEqual(judged, judged_plainly(web, house, other), other)
                wrong.add(judged)
        self.assertGreater(len(wrong), 4)

    def test_first_rows(self):
        web = Web(HOUSES[:2], BOOKS[:2])
        table = Journeys(web, "east").table
        first = table[0]
        for follows, judged in [((), 0), (None, 0), ("", 0), (((1, 1), (1, 1)), 0), (((0, 1),), 0), (((1, 2),), 0)]:
            self.assertEqual(judge_journeys(web, "east", (first[:3] + (follows,),) + table[1:]), judged)
        for row in (("north",) + first[1:], ("east", ("on", "in")) + first[2:], first[:2] + ((1,), first[3]), first[:3], None):
            self.assertEqual(judge_journeys(web, "east", (row,) + table[1:]), -1)
        self.assertEqual(judge_journeys(web, "east", table[1:] + table[:1]), -1)

    def test_true_is_no_number(self):
        web = Web((("h", ("a", "b")), ("i", ("c",))), (("i", "i", (("c", "c"),)), ("h", "h", (("a", "b"), ("b", "a")))))
        table = Journeys(web, "h").table
        self.assertEqual(table, (("h", ("a", "b"), (), ((1, 1),)), ("h", ("b", "a"), (1,), ((1, 0),))))
        for row in (table[1][:3] + (((True, 0),),), table[1][:3] + (((1, False),),), table[1][:2] + ((True,), ((1, 0),))):
            self.assertEqual(judge_journeys(web, "h", (table[0], row)), 1)

    def test_very_deep_things_raise_nothing(self):
        deep = []
        for _ in range(5000):
            deep = [deep]
        table = Journeys(Web(HOUSES[:2], BOOKS[:2]), "east").table
        web = Web(HOUSES[:2], BOOKS[:2])
        for place in range(4):
            for thing in (deep, (deep,)):
                row = table[1][:place] + (thing,) + table[1][place + 1:]
                self.assertEqual(judge_journeys(web, "east", table[:1] + (row,) + table[2:]), 0 if place < 2 else 1)
                first = table[0][:place] + (thing,) + table[0][place + 1:]
                self.assertEqual(judge_journeys(web, "east", (first,) + table[1:]), -1 if place < 3 else 0)
                for row in ((thing, "in", "on"), ("east", thing, "on"), thing):
                    self.assertIsNotNone(judge_apart(web, "east", "in", "on", (("east", "in", "on"), row)))

    def test_more_rows_than_can_be_told(self):
        web = six_words("bcdefa")
        table = Journeys(web, "h").table
        long = table + tuple((*row[:2], row[2] + (0,) * 6 * k, row[3]) for k in range(1, 150) for row in table)
        self.assertIsNone(judge_journeys(web, "h", long))
        self.assertEqual(judge_journeys(web, "h", long[:-1] + ((*long[-1][:3], ((0, 1),)),)), len(long) - 1)


def judged_plainly(web, house, table):
    """Judges a table of journeys as [38] and the interface tell."""
    words = web.words_of(house)
    if not isinstance(table, (tuple, list)) or not table:
        return -1
    rows = [brute.as_tuples(row) for row in table]
    if not (isinstance(rows[0], tuple) and len(rows[0]) == 4 and rows[0][:3] == (house, words, ())):
        return -1

    def form(row):
        return (isinstance(row, tuple) and len(row) == 4 and row[0] in web and isinstance(row[1], tuple)
                and len(row[1]) == len(words) and all(isinstance(word, str) for word in row[1])
                and isinstance(row[2], tuple) and isinstance(row[3], tuple))

    for place, row in enumerate(rows):
        if not form(row) or gone(web, house, row[2]) != row[:2]:
            return place
        expected = [(number, gone(web, house, row[2] + (number,))) for number in web.leaving(row[0])]
        if len(expected) != len(row[3]):
            return place
        for pair, (number, node) in zip(row[3], expected):
            if not isinstance(pair, tuple) or len(pair) != 2 or any(type(part) is not int for part in pair):
                return place
            if pair[0] != number or not 0 <= pair[1] < len(rows) or not form(rows[pair[1]]):
                return place
            if rows[pair[1]][:2] != node:
                return place
    return None


def four_hundred(more):
    """A web with just 400 rows, or one more: all orders of five words, in three houses, and what becomes of them."""
    five, others = tuple("abcde"), tuple("pqrst")
    houses = (("h", five), ("i", five), ("j", five), ("k", others), ("l", ("x",)))
    maps = [("h", "bcdea"), ("h", "bacde"), ("i", "abcde"), ("j", "abcde"), ("k", "pqqrr"), ("k", "sstts")]
    books = [("h", end, tuple(zip(five, images))) for end, images in maps]
    return Web(houses, books + [("h", "l", tuple((word, "x") for word in five))] * more)


class Falling(unittest.TestCase):
    def test_by_hand(self):
        web = Web(HOUSES, BOOKS)
        both = Together(web, "north", "b", "c")
        self.assertEqual((bool(both), both.journey, both.table), (True, (0,), None))
        self.assertEqual(Together(web, "north", "c", "a").journey, (2, 2, 0))
        apart = Together(web, "east", "in", "on")
        self.assertEqual((bool(apart), apart.journey), (True, (1, 2, 0)))
        web = Web(HOUSES, BOOKS[1:])
        apart = Together(web, "east", "on", "in")
        self.assertEqual((bool(apart), apart.journey), (False, None))
        self.assertEqual(apart.table[:3], (("east", "on", "in"), ("north", "a", "b"), ("east", "in", "on")))

    def test_against_plain_searches(self):
        ever = never = 0
        for seed in range(160):
            web = some_web(seed)
            for name, words in web:
                fallen = []
                for one, other in itertools.permutations(words, 2):
                    both = Together(web, name, one, other)
                    triples = triples_plainly(web, name, one, other)
                    if any(one == other for _, one, other in triples):
                        ever += 1
                        self.assertTrue(both)
                        self.assertIsNone(both.table)
                        fallen.append({one, other})
                        if len(both.journey) <= 3:
                            there = [journey for journey, _, images in journeys_within(web, name, 3)
                                     if images[words.index(one)] == images[words.index(other)]]
                            self.assertEqual(both.journey, there[0])
                    else:
                        never += 1
                        self.assertFalse(both)
                        self.assertIsNone(both.journey)
                        self.assertEqual(both.table, triples)
                        self.assertIsNone(judge_apart(web, name, one, other, both.table))
                lots = [lot for k in range(4) for lot in itertools.combinations(words, k)]
                good = [lot for lot in lots if all(set(lot) & pair for pair in fallen)]
                least = [lot for lot in good if not any(set(part) < set(lot) for part in good)]
                self.assertEqual(left_out(web, name), tuple(least))
        self.assertGreater(ever, 100)
        self.assertGreater(never, 100)

    def test_no_words(self):
        web = Web(HOUSES, BOOKS)
        for one, other, wrong in [("q", "r", "q"), ("a", "q", "q"), ("q", "a", "q"), ("in", "a", "in"), (None, "a", None),
                                  ("a", True, True), (("a",), "b", ("a",)), ("a", [], [])]:
            for ask in (lambda: Together(web, "north", one, other), lambda: judge_apart(web, "north", one, other, None)):
                with self.assertRaises(NoWord) as caught:
                    ask()
                self.assertEqual(caught.exception.word, wrong)

    def test_spoilt_tables(self):
        judged = set()
        for seed in range(60):
            web = some_web(seed)
            name, words = web.houses[0]
            if len(words) < 2:
                continue
            both = Together(web, name, *words[:2])
            if both:
                continue
            others = [house for house, _ in web] + list("abcd")

            def form(row):
                return (isinstance(row, tuple) and len(row) == 3 and row[0] in web
                        and row[1] in web.words_of(row[0]) and row[2] in web.words_of(row[0]))

            def good(row, rows):
                return row[1] != row[2] and all((end, dict(pairs)[row[1]], dict(pairs)[row[2]]) in rows
                                                for start, end, pairs in web.books if start == row[0])

            for table in brute.spoilt(both.table, seed, others=others):
                told = judge_apart(web, name, *words[:2], table)
                self.assertEqual(told, brute.judge(table, form, [(name, *words[:2])], good), table)
                judged.add(told)
        self.assertGreater(len(judged), 3)

    def test_left_out_by_hand(self):
        self.assertEqual(left_out(Web(HOUSES, BOOKS), "north"), (("a", "b"), ("a", "c"), ("b", "c")))
        self.assertEqual(left_out(Web(HOUSES, BOOKS[:1]), "north"), (("b",), ("c",)))
        self.assertEqual(left_out(Web(HOUSES), "north"), ((),))
        self.assertEqual(len(left_out(six_words("aaaaaa"), "h")), 6)


def triples_plainly(web, house, one, other):
    """All triples to which journeys carry two words, in the order in which they are found."""
    found = [(house, one, other)]
    for here, left, right in found:
        for start, end, pairs in web.books:
            triple = (end, dict(pairs).get(left), dict(pairs).get(right))
            if start == here and triple not in found:
                found.append(triple)
    return tuple(found)


class Rounds(unittest.TestCase):
    def test_by_hand(self):
        web = Web(HOUSES, BOOKS)
        turn = Round(web, "north", (2,))
        self.assertEqual((turn.lead, turn.period), (0, 3))
        self.assertEqual([turn.fate(word) for word in "abc"], [tuple("abc"), tuple("bca"), tuple("cab")])
        there = Round(web, "north", [0, 1])
        self.assertEqual((there.lead, there.period), (1, 2))
        self.assertEqual([there.fate(word) for word in "abc"], [tuple("aba"), tuple("bab"), tuple("cab")])
        none = Round(web, "west", ())
        self.assertEqual((none.lead, none.period, none.fate("x")), (0, 1, ("x",)))

    def test_errors(self):
        web = Web(HOUSES, BOOKS)
        with self.assertRaises(Unlike) as caught:
            Round(web, "north", (0,))
        self.assertEqual(caught.exception.word, "houses")
        turn = Round(web, "north", (2,))
        for word in ("in", "", None, 0, True, ("a",), []):
            with self.assertRaises(NoWord) as caught:
                turn.fate(word)
            self.assertIs(caught.exception.word, word)

    def test_against_plain_searches(self):
        rounds = 0
        for seed in range(80):
            web = some_web(seed)
            for name, words in web:
                for journey, house, _ in journeys_within(web, name, 3)[:30]:
                    if house != name:
                        self.assertRaises(Unlike, Round, web, name, journey)
                        continue
                    images = [gone(web, name, journey * k)[1] for k in range(14)]
                    turn = Round(web, name, journey)
                    least = min((n, m) for n in range(7) for m in range(1, 7) if images[n] == images[n + m])
                    self.assertEqual((turn.lead, turn.period), least)
                    for place, word in enumerate(words):
                        self.assertEqual(turn.fate(word), tuple(row[place] for row in images[:sum(least)]))
                    rounds += turn.lead + turn.period > 2
        self.assertGreater(rounds, 20)

    def test_many_rounds(self):
        turn = Round(six_words("bcaedf"), "h", (0,) * 7)
        self.assertEqual((turn.lead, turn.period), (0, 6))
        self.assertEqual(Round(six_words("aabcde"), "h", (0,)).lead, 5)

    def test_keepers(self):
        web = Web(HOUSES, BOOKS)
        self.assertEqual(keepers(web, "north"), (("north", ()),))
        self.assertEqual(keepers(web, "east"), (("east", ()), ("north", (1,))))
        self.assertEqual(keepers(web, "west"), (("west", ()),))
        for seed in range(120):
            web = some_web(seed)
            for name, _ in web:
                least = {}
                for house, images, journey, _ in table_plainly(web, name):
                    if len(set(images)) == len(images):
                        least.setdefault(house, journey)
                self.assertEqual(keepers(web, name), tuple(sorted(least.items())))

    def test_spare_books(self):
        self.assertEqual(spare_books(Web(HOUSES)), ())
        self.assertEqual(spare_books(six_words("bcdefa", "cdefab", "bcdefa")), (0, 1, 2))
        self.assertEqual(spare_books(six_words("bcdefa", "cdefab")), (1,))
        self.assertEqual(spare_books(six_words("abcdef", "aaaaaa")), (0,))
        spares = 0
        for seed in range(160):
            web = some_web(seed)
            spare = []
            for number in range(len(web.books)):
                less = Web(web.houses, web.books[:number] + web.books[number + 1:])
                if all({row[:2] for row in table_plainly(web, name)} == {row[:2] for row in table_plainly(less, name)}
                       for name, _ in web):
                    spare.append(number)
            self.assertEqual(spare_books(web), tuple(spare))
            spares += len(spare)
        self.assertGreater(spares, 40)


if __name__ == "__main__":
    unittest.main()
