import random
import unittest

import grammar
import plain
from keptacross.errors import BadLine, BadTerm
from keptacross.logtext import read_log, taken_up, write_log
from keptacross.terms import Term

TERM = Term("t", ("a", "_", "b"), (("_",), ("*n", "_")), scope=("in", "c"), first=("_",), turn="k")
CHANGES = (
    ("add", TERM), ("drop", "t"), ("rise", "t"), ("ways", "t", (("a", "_"), (), ("*n",))), ("first", "t", ("x", "_")),
    ("first", "t", ()), ("first", "t", None), ("scope", "t", ("work",)), ("scope", "t", ("in", "a")),
    ("scope", "t", ("behind", "a")), ("scope", "t", ("plain",)), ("scope", "t", ("quoted",)), ("say", "a", "b"),
    ("say", "a", "a"), ("add", Term("u", ("a",), ((),))))
LINES = (
    "add", "term t a _ b", "way _", "way *n _", "first _", "scope in c", "turns k", "end", "drop t", "rise t",
    "ways t", "way a _", "way", "way *n", "end", "first t", "way x _", "end", "first t", "way", "end", "first t", "end",
    "scope t work", "scope t in a", "scope t behind a", "scope t plain", "scope t quoted", "say a b", "say a a",
    "add", "term u a", "way", "end")
# How many lines the changes up to each one have.
BEHIND = (8, 9, 10, 15, 18, 21, 23, 24, 25, 26, 27, 28, 29, 30, 34)


def as_read(lines):
    """The changes, or where the lines go wrong."""
    try:
        return read_log(lines)
    except BadLine as error:
        return error.line, error.word


class Logs(unittest.TestCase):
    def bad(self, lines, line, word):
        with self.subTest(lines=lines):
            with self.assertRaises(BadLine) as caught:
                read_log(lines)
            self.assertEqual((caught.exception.line, caught.exception.word), (line, word))

    def test_all_kinds_of_changes(self):
        self.assertEqual(write_log(CHANGES), LINES)
        self.assertEqual(read_log(LINES), CHANGES)
        self.assertEqual(read_log(list(LINES)), CHANGES)
        self.assertEqual((write_log(()), read_log(())), ((), ()))

    def test_lists(self):
        lists = [["drop", "t"], ["ways", "t", [["a"], []]], ["first", "t", ["a"]], ["first", "t", None],
                 ["scope", "t", ["in", "a"]], ["say", "a", "b"], ["add", TERM]]
        lines = write_log(lists)
        self.assertEqual(read_log(lines), (("drop", "t"), ("ways", "t", (("a",), ())), ("first", "t", ("a",)),
                                           ("first", "t", None), ("scope", "t", ("in", "a")), ("say", "a", "b"),
                                           ("add", TERM)))
        self.assertEqual(lists[1], ["ways", "t", [["a"], []]])

    def test_bad_lines(self):
        for lines, line, word in [
                (("",), 0, 0), ((None,), 0, 0), (("term t a",), 0, 0), (("end",), 0, 0), (("Drop t",), 0, 0),
                (("drop",), 0, 1), (("drop ",), 0, 1), (("drop t u",), 0, 2), (("drop _",), 0, 1), (("rise",), 0, 1),
                (("rise t t",), 0, 2), (("add t",), 0, 1), (("add ",), 0, 1), (("add",), 1, 0), (("add", "way"), 1, 0),
                (("add", "term t a", "end"), 2, 0), (("add", "term t a", "way"), 3, 0),
                (("add", "term t a", "way", "drop t"), 3, 0), (("add", "term t a", "way", "end t"), 3, 1),
                (("ways t", "end"), 1, 0), (("ways t",), 1, 0), (("ways",), 0, 1), (("ways t t",), 0, 2),
                (("ways t", "way", "way", "way", "way", "end"), 4, 0), (("ways t", "way a a a a a a a"), 1, 7),
                (("first t",), 1, 0), (("first t", "way", "way", "end"), 2, 0), (("first t", "way"), 2, 0),
                (("first t", "way a a a a a a a"), 1, 7), (("first t way",), 0, 2), (("first t", "drop t"), 1, 0), (("scope t",), 0, 2), (("scope t in",), 0, 3),
                (("scope",), 0, 1), (("scope t on a",), 0, 2), (("scope t work a",), 0, 3), (("scope t in a b",), 0, 4),
                (("scope in a",), 0, 2), (("say a",), 0, 2), (("say a b c",), 0, 3), (("say a *b",), 0, 2),
                (("drop t", 5), 1, 0), (("drop t", ""), 1, 0), (("drop t", "end"), 1, 0)]:
            self.bad(lines, line, word)

    def test_terms_are_judged_behind_all_lines(self):
        lines = ("add", "term t a", "way _", "end", "add", "term t _", "way", "end")
        with self.assertRaises(BadTerm) as caught:
            read_log(lines)
        self.assertEqual(caught.exception.word, "ways")
        self.bad(lines + ("drop",), 8, 1)
        with self.assertRaises(BadTerm) as caught:
            read_log(lines[4:] + lines[:4])
        self.assertEqual(caught.exception.word, "pattern")

    def test_ways_of_six_items(self):
        for change in (("first", "t", ("a",) * 6), ("ways", "t", (("a",) * 6,) * 3)):
            self.assertEqual(read_log(write_log((change,))), (change,))

    def test_ways_need_not_fit_a_pattern_here(self):
        self.assertEqual(read_log(("ways t", "way _ _", "end")), (("ways", "t", (("_", "_"),)),))

    def test_spoilt(self):
        chance = random.Random(5)
        for _ in range(1500):
            lines = grammar.spoilt(chance, LINES)
            if chance.random() < 0.5:
                lines = grammar.spoilt(chance, lines)
            left = grammar.leaves(grammar.LOG, lines)
            try:
                read_log(lines)
            except BadLine as error:
                self.assertEqual((error.line, error.word), left, lines)
            except BadTerm:
                self.assertIsNone(left, lines)
            else:
                self.assertIsNone(left, lines)


class TornLogs(unittest.TestCase):
    def test_cut_at_every_line(self):
        for cut in range(len(LINES) + 1):
            whole = [number for number in BEHIND if number <= cut]
            behind = whole[-1] if whole else 0
            self.assertEqual(taken_up(LINES[:cut]), (CHANGES[:len(whole)], behind))
            self.assertEqual(taken_up(list(LINES[:cut]) + [None]), (CHANGES[:len(whole)], behind))

    def test_cut_within_a_line(self):
        for number, line in enumerate(LINES):
            whole = [behind for behind in BEHIND if behind <= number]
            torn = LINES[:number] + (line[:-1] + "!",)
            self.assertEqual(taken_up(torn), (CHANGES[:len(whole)], whole[-1] if whole else 0))

    def test_what_comes_behind_is_not_taken_up(self):
        self.assertEqual(taken_up(("drop t", "drop", "drop u")), ((("drop", "t"),), 1))
        self.assertEqual(taken_up(("drop t", 7, "drop u")), ((("drop", "t"),), 1))

    def test_a_term_that_is_none(self):
        lines = ("drop t", "add", "term t a", "way _", "end", "drop u")
        self.assertEqual(taken_up(lines), ((("drop", "t"),), 1))

    def test_any_rows(self):
        for lines in [(), [], (None,), (5, "drop t"), ("",), (["drop t"],), (b"drop t",), (True,), ({},)]:
            self.assertEqual(taken_up(lines), ((), 0))

    def test_the_longest_good_beginning(self):
        chance = random.Random(6)
        logs = [("add", term) for seed in range(20) for term in plain.some_book(seed)]
        for _ in range(400):
            changes = [chance.choice(CHANGES + tuple(logs)) for _ in range(4)]
            lines = grammar.spoilt(chance, write_log(changes))
            best = ((), 0)
            for cut in range(len(lines) + 1):
                try:
                    best = (read_log(lines[:cut]), cut)
                except (BadLine, BadTerm):
                    pass
            self.assertEqual(taken_up(lines), best)


if __name__ == "__main__":
    unittest.main()
