import unittest

import brute
import plain
from keptacross.atonce import AtOnce, judge_at_once, least_sight
from keptacross.books import Book
from keptacross.carrying import BEGINNING
from keptacross.errors import BadSight, Foreign, NoPlace, TooMany
from keptacross.roads import Road
from keptacross.rules import Rules
from keptacross.styles import Style
from keptacross.terms import Term
from keptacross.tongues import Tongue
from test_keeping_able import breaks, is_last, is_room, letters
from test_outlooks import counter

BEGUN = (BEGINNING,)


class Game:
    """The game of [23], gone through by the readings that have been told, not by positions."""

    def __init__(self, road, rules, style, sight):
        self.road, self.rules, self.style, self.sight = road, rules, style, sight

    def windows(self, room, window):
        """All windows with sight + 1 entries that begin with this one, with their rooms."""
        if "" in window or len(window) == self.sight + 1:
            return [(room, window)]
        found = self.windows(room, window + ("",)) if self.style.is_end(room) else []
        for word, leads in self.style.let(room):
            found += self.windows(leads, window + (word,))
        return found

    def firsts(self):
        windows = [(room, window) for room, window in self.windows(0, ()) if window != ("",)]
        return sorted(windows, key=lambda pair: (len(pair[1]), pair[1]))

    def page(self, reading):
        """What has been said for a reading that goes on, and the standing."""
        page, standing = (), self.road.beginning
        for word, pick in reading:
            said, standing = self.road.hear(standing, word, pick)
            page += said
        return page, standing

    def lost_within(self, reading, room, window, picks):
        """Whether the speaker can bring it about that the rules are lost with one of so many picks."""
        if picks == 0:
            return False
        return all(self.pick_lost(reading, room, window, pick, picks) for pick in range(self.road.picks))

    def pick_lost(self, reading, room, window, pick, picks):
        told = reading + ((window[0], pick),)
        page, standing = self.page(told)
        if self.rules.broken(page) is not None:
            return True
        for leads, entries in self.windows(room, window[1:]):
            if entries == ("",):
                if self.rules.broken(page + self.road.finish(standing)) is not None:
                    return True
            elif self.lost_within(told, leads, entries, picks - 1):
                return True
        return False


def after(road, style, position, pick):
    """The positions that follow a pick, and whether the rules are lost with it by some choice; None if they are at once."""
    room, standing, last, window = position
    said, ahead = road.hear(standing, window[0], pick)
    return said, ahead, (said[-1] if said else last), window[1:], room


def keeping_plainly(road, rules, style, sight, table):
    game = Game(road, rules, style, sight)
    firsts = [(room, road.beginning, "", window) for room, window in game.firsts()]

    def form(row):
        if not isinstance(row, tuple) or len(row) != 4 or not is_room(row[0], style) or not isinstance(row[1], tuple):
            return False
        if not is_last(row[2]) or not isinstance(row[3], tuple) or not 1 <= len(row[3]) <= sight + 1:
            return False
        words = [entry for entry in row[3][:-1]] + ([row[3][-1]] if row[3][-1] != "" or len(row[3]) == 1 else [])
        if not all(isinstance(word, str) and word.isalpha() for word in words):
            return False
        return row[3][-1] == "" or len(row[3]) == sight + 1

    def good(row, rows):
        for pick in range(road.picks):
            said, ahead, last, rest, room = after(road, style, row, pick)
            if breaks(rules, row[2], said):
                continue
            ends = [breaks(rules, last, road.finish(ahead)) if window == ("",) else (leads, ahead, last, window) not in rows
                    for leads, window in game.windows(room, rest)]
            if not any(ends):
                return True
        return False

    if not firsts and isinstance(table, (tuple, list)) and not table:
        return None
    return brute.judge(table, form, firsts, good)


def made(seed, sight):
    road = brute.some_road(seed, terms=3)
    words = road.books[0].tongue.words
    style, rules = brute.some_style(seed, words), brute.some_rules(seed, words)
    return road, rules, style, brute.asked(lambda: AtOnce(road, rules, style, sight=sight))


class ByHand(unittest.TestCase):
    """The words a (x or y) and b (z): z must not come behind x."""

    def setUp(self):
        self.road = Road(letters((("x",), ("y",)), (("z",),), (("w",),)))
        self.rules = Rules((("x", "z"), ("y", "w")))
        self.style = Style(((("a", 1),), (("b", 2), ("c", 2)), ()), (2,))

    def test_without_sight(self):
        game = AtOnce(self.road, self.rules, self.style)
        self.assertIs(bool(game), False)
        self.assertEqual(game.firsts, ((1, BEGUN, "", ("a",)),))
        self.assertEqual(game.table, (((1, BEGUN, "", ("a",)), 2),
                                      ((2, BEGUN, "x", ("b",)), 1), ((2, BEGUN, "x", ("c",)), None),
                                      ((2, BEGUN, "y", ("b",)), None), ((2, BEGUN, "y", ("c",)), 1)))

    def test_picks_and_answers(self):
        game = AtOnce(self.road, self.rules, self.style)
        first = game.firsts[0]
        self.assertIsNone(game.pick_for(first))
        self.assertEqual([game.answer(first, pick) for pick in (0, 1)], [("b",), ("c",)])
        self.assertEqual(game.answer(first, 2), ("b",))
        self.assertIsNone(game.pick_for((2, BEGUN, "x", ("b",))))
        self.assertIsNone(game.answer((2, BEGUN, "x", ("b",)), 0))
        self.assertEqual(game.pick_for((2, BEGUN, "x", ("c",))), 0)
        self.assertIsNone(game.answer((2, BEGUN, "x", ("c",)), 0))

    def test_with_sight(self):
        game = AtOnce(self.road, self.rules, self.style, sight=1)
        self.assertIs(bool(game), True)
        self.assertEqual(game.firsts, ((2, BEGUN, "", ("a", "b")), (2, BEGUN, "", ("a", "c"))))
        self.assertEqual([game.pick_for(position) for position in game.firsts], [1, 0])
        self.assertEqual(game.table, (((2, BEGUN, "", ("a", "b")), None), ((2, BEGUN, "", ("a", "c")), None),
                                      ((2, BEGUN, "x", ("b", "")), 1), ((2, BEGUN, "y", ("b", "")), None),
                                      ((2, BEGUN, "x", ("c", "")), None), ((2, BEGUN, "y", ("c", "")), 1)))
        self.assertEqual(game.answer(game.firsts[0], 0), ("b", ""))
        self.assertIsNone(game.answer(game.firsts[0], 1))
        self.assertEqual(least_sight(self.road, self.rules, self.style), 1)

    def test_two_ahead(self):
        silent = Road(letters((("x",), ("y",)), (("z",),), (("w",),), ((),)))
        style = Style(((("a", 1),), (("d", 2),), (("b", 3), ("c", 3)), ()), (3,))
        self.assertEqual([bool(AtOnce(silent, self.rules, style, sight=sight)) for sight in (0, 1, 2)],
                         [False, False, True])
        self.assertEqual(least_sight(silent, self.rules, style), 2)
        longer = Style(((("a", 1),), (("d", 2),), (("d", 3),), (("b", 4), ("c", 4)), ()), (4,))
        self.assertIsNone(least_sight(silent, self.rules, longer))

    def test_the_end(self):
        book = Book(Tongue(("a",)), (Term("t", ("a", "a"), (("y",),)), Term("s", ("a",), (("x",), ("z",)))))
        style = Style.free(("a",))
        game = AtOnce(Road(book), Rules((("x",),)), style)
        held = [(("", 0, (), (), (), (("a", pick),)),) for pick in (0, 1)]
        self.assertEqual(game.firsts, ((0, BEGUN, "", ("a",)),))
        self.assertEqual(game.table[0], (game.firsts[0], None))
        self.assertEqual(game.table[1][0], (0, held[0], "", ("a",)))
        self.assertEqual(game.pick_for(game.firsts[0]), 1)
        self.assertEqual(game.answer(game.firsts[0], 0), ("",))
        self.assertIsNone(game.answer(game.firsts[0], 1))
        both = AtOnce(Road(book), Rules((("x",), ("z",))), style)
        self.assertEqual(both.table[0][1], 1)
        self.assertEqual(both.answer(both.firsts[0], 1), ("",))

    def test_windows_in_order(self):
        road, style = Road(letters((("x",),), (("y",),))), Style.free(("a", "b"))
        firsts = AtOnce(road, Rules(()), style, sight=2).firsts
        self.assertEqual([position[3] for position in firsts],
                         [("a", ""), ("b", ""), ("a", "a", ""), ("a", "a", "a"), ("a", "a", "b"), ("a", "b", ""),
                          ("a", "b", "a"), ("a", "b", "b"), ("b", "a", ""), ("b", "a", "a"), ("b", "a", "b"),
                          ("b", "b", ""), ("b", "b", "a"), ("b", "b", "b")])

    def test_a_text_without_words_needs_no_hand(self):
        style = Style(((),), (0,))
        for sight in (0, 1, 2):
            game = AtOnce(self.road, self.rules, style, sight=sight)
            self.assertEqual((game.firsts, game.table, bool(game)), ((), (), True))
            self.assertIsNone(judge_at_once(self.road, self.rules, style, sight, ()))
            self.assertIsNone(judge_at_once(self.road, self.rules, style, sight, []))
            self.assertEqual(judge_at_once(self.road, self.rules, style, sight, None), -1)
            self.assertEqual(judge_at_once(self.road, self.rules, style, sight, (None,)), 0)
        self.assertEqual(least_sight(self.road, self.rules, style), 0)


class AgainstAPlainSearch(unittest.TestCase):
    def test_values(self):
        safe = lost = 0
        for seed in range(90):
            sight = seed % 3
            road, rules, style, game = made(seed, sight)
            if game is None or road.picks > 2 and sight == 2:
                continue
            plain_game = Game(road, rules, style, sight)
            values = dict(game.table)
            self.assertEqual([(position[0], position[3]) for position in game.firsts], plain_game.firsts())
            self.assertEqual(bool(game), all(values[position] is None for position in game.firsts))
            for room, window in plain_game.firsts():
                value = values[(room, road.beginning, "", window)]
                within = [plain_game.lost_within((), room, window, picks) for picks in range(4)]
                self.assertEqual(within, [value is not None and value <= picks for picks in range(4)])
                safe += value is None
                lost += value is not None
        self.assertGreater(safe, 50)
        self.assertGreater(lost, 50)

    def test_picks_and_answers(self):
        for seed in range(90):
            sight = seed % 3
            road, rules, style, game = made(seed + 300, sight)
            if game is None or len(game.table) > 150:
                continue
            values = dict(game.table)
            plain_game = Game(road, rules, style, sight)
            for position, value in game.table:
                good = []
                for pick in range(road.picks):
                    said, ahead, last, rest, room = after(road, style, position, pick)
                    if breaks(rules, position[2], said):
                        self.assertIsNone(game.answer(position, pick))
                        continue
                    times = []
                    for leads, window in plain_game.windows(room, rest):
                        if window == ("",):
                            time = 0 if breaks(rules, last, road.finish(ahead)) else None
                        else:
                            time = values[(leads, ahead, last, window)]
                        if time is not None:
                            times.append((time, len(window), window))
                    self.assertEqual(game.answer(position, pick), min(times)[2] if times else None)
                    if not times:
                        good.append(pick)
                self.assertEqual(game.pick_for(position), good[0] if good else None)
                self.assertEqual(value is None, bool(good))

    def test_the_order_of_positions(self):
        for seed in range(40):
            sight = seed % 3
            road, rules, style, game = made(seed + 600, sight)
            if game is None or len(game.table) > 300:
                continue
            plain_game = Game(road, rules, style, sight)
            found = list(game.firsts)
            for position in found:
                for pick in range(road.picks):
                    said, ahead, last, rest, room = after(road, style, position, pick)
                    if breaks(rules, position[2], said):
                        continue
                    for leads, window in plain_game.windows(room, rest):
                        if window != ("",) and (leads, ahead, last, window) not in found:
                            found.append((leads, ahead, last, window))
            self.assertEqual([position for position, _ in game.table], found)

    def test_safe_positions_are_a_keeping_table(self):
        kept = 0
        for seed in range(90):
            sight = seed % 3
            road, rules, style, game = made(seed, sight)
            if game is not None and game:
                kept += 1
                positions = [position for position, value in game.table if value is None]
                self.assertIsNone(judge_at_once(road, rules, style, sight, tuple(positions)))
        self.assertGreater(kept, 20)

    def test_spoilt_tables(self):
        judged = 0
        for seed in range(70):
            sight = seed % 3
            road, rules, style, game = made(seed, sight)
            if game is None or not game or len(game.table) > 12:
                continue
            positions = tuple(position for position, value in game.table if value is None)
            others = [("a",), ("a", ""), ("a", "b"), ("", "a"), ("a", "", ""), ("*a",), ("a", "b", "zz"), ("",)]
            for table in brute.spoilt(positions, seed, tuples=(1,), others=others):
                judged += 1
                self.assertEqual(judge_at_once(road, rules, style, sight, table),
                                 keeping_plainly(road, rules, style, sight, table), table)
        self.assertGreater(judged, 300)


class Errors(unittest.TestCase):
    def test_sights(self):
        style = Style.free(("a", "p"))
        for sight in (-1, 3, True, False, None, "0", 1.0, (1,)):
            for ask in (lambda: AtOnce(Road(counter(9)), Rules(()), style, sight=sight),
                        lambda: judge_at_once(Road(counter(9)), Rules(()), style, sight, None)):
                with self.assertRaises(BadSight) as caught:
                    ask()
                self.assertIs(caught.exception.sight, sight)

    def test_foreign(self):
        style = Style.free(("a", "p"))
        for ask in (lambda: AtOnce(Road(counter(1001)), Rules(()), style),
                    lambda: judge_at_once(Road(counter(9)), Rules(()), style, 0, None),
                    lambda: least_sight(Road(counter(1001)), Rules(()), style)):
            with self.assertRaises(Foreign) as caught:
                ask()
            self.assertEqual(caught.exception.word, "p")

    def test_just_1000_positions_and_more(self):
        style = Style.free(("a",))
        self.assertEqual(len(AtOnce(Road(counter(1000)), Rules(()), style).table), 1000)
        for ask in (lambda: AtOnce(Road(counter(1001)), Rules(()), style),
                    lambda: least_sight(Road(counter(1001)), Rules(()), style)):
            with self.assertRaises(TooMany) as caught:
                ask()
            self.assertEqual(caught.exception.word, "position")

    def test_too_many_with_the_next_sight(self):
        # Without sight there are 600 positions; with one word seen, each comes with the end and without it.
        book = counter(600)
        lose = Book(Tongue(("a", "b")), book.terms + (Term("b", ("b",), (("x",), ("y",))),), turns=book.turns)
        style = Style(((("a", 0), ("b", 1)), ()), (0, 1))
        self.assertEqual(least_sight(Road(book), Rules(()), Style.free(("a",))), 0)
        with self.assertRaises(TooMany):
            AtOnce(Road(book), Rules(()), Style.free(("a",)), sight=1)
        self.assertRaises(TooMany, least_sight, Road(lose), Rules((("x",), ("y",))), style)

    def test_no_place(self):
        game = AtOnce(Road(letters((("x",),))), Rules(()), Style.free(("a",)))
        first = game.firsts[0]
        for position in (None, 0, (), "a", {}, first[:3], (0, BEGUN, "y", ("a",)), (False, BEGUN, "", ("a",)),
                         (0, BEGUN, "", ("",)), (0, BEGUN, "", ("b",)), (0, {}, "", ("a",))):
            for ask in (game.pick_for, lambda position: game.answer(position, 0)):
                with self.assertRaises(NoPlace) as caught:
                    ask(position)
                self.assertIs(caught.exception.place, position)
        self.assertEqual(game.pick_for(brute.as_lists(first)), 0)
        self.assertIsNone(game.answer(brute.as_lists(first), 0))


if __name__ == "__main__":
    unittest.main()
