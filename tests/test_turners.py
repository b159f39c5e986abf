import itertools
import random
import unittest

from keptacross.errors import BadLot, BadRow, BadTurners, TooMany
from keptacross.turnback import ring, spare, undone
from keptacross.turners import Turners, judge_turners
from keptacross.turnwords import gathered, led, surely_gathered
from keptacross.wordmaps import WordMap

SWAP = (("s", WordMap((("a", "b"), ("b", "a")))),)
# k takes all to c in two steps, m swaps a and b.
LINE = (("k", WordMap((("a", "b"), ("b", "c")))), ("m", WordMap((("a", "b"), ("b", "a")))))
WORDS = ("a", "b", "c", "d")


def letters(number):
    return chr(97 + number // 26) + chr(97 + number % 26)


def ring_of(many):
    """One turner, whose rows do so many maps."""
    words = [letters(k) for k in range(many)]
    return (("r", WordMap.of(tuple(zip(words, words[1:] + words[:1])))),)


def all_maps(many):
    """Turners whose rows do all many ** many maps of so many words."""
    words = "abcdef"[:many]
    return (("c", WordMap.of(tuple(zip(words, words[1:] + words[:1])))), ("f", WordMap((("a", "b"),))),
            ("s", WordMap((("a", "b"), ("b", "a")))))


def plain_table(turns):
    """The table, gone through as [13] tells it, however long it is."""
    found = [WordMap()]
    numbers = {(): 0}
    rows = [()]
    follows = []
    for number, word_map in enumerate(found):
        follow = []
        for name, turn in turns:
            behind = word_map.then(turn)
            if behind.pairs not in numbers:
                numbers[behind.pairs] = len(found)
                found.append(behind)
                rows.append(rows[number] + (name,))
            follow.append(numbers[behind.pairs])
        follows.append(tuple(follow))
    return tuple(zip([word_map.pairs for word_map in found], rows, follows))


def some_turns(seed):
    chance = random.Random(seed)
    names = sorted(chance.sample("klmnop", chance.randint(1, 4)))
    words = WORDS[:chance.randint(2, 4)]
    return tuple((name, WordMap.of(tuple((word, chance.choice(words)) for word in words))) for name in names)


def done(turns, row):
    """The map that a row does."""
    found = WordMap()
    for name in row:
        found = found.then(dict(turns)[name])
    return found


def short_rows(turns, most):
    for length in range(most + 1):
        yield from itertools.product([name for name, _ in turns], repeat=length)


class Tables(unittest.TestCase):
    def test_by_hand(self):
        self.assertEqual(Turners(SWAP).table, (((), (), (1,)), ((("a", "b"), ("b", "a")), ("s",), (0,))))
        self.assertEqual(Turners(LINE).table, (
            ((), (), (1, 2)),
            ((("a", "b"), ("b", "c")), ("k",), (3, 4)),
            ((("a", "b"), ("b", "a")), ("m",), (5, 0)),
            ((("a", "c"), ("b", "c")), ("k", "k"), (3, 3)),
            ((("b", "c"),), ("k", "m"), (1, 1)),
            ((("a", "c"),), ("m", "k"), (3, 6)),
            ((("a", "c"), ("b", "a")), ("m", "k", "m"), (5, 5))))

    def test_attributes(self):
        turners = Turners([["k", LINE[0][1]], ["m", LINE[1][1]]])
        self.assertEqual(turners.turns, LINE)
        self.assertEqual(turners.names, ("k", "m"))
        self.assertEqual(len(turners), len(turners.table))
        self.assertEqual(list(turners), list(turners.table))

    def test_turners_that_change_nothing(self):
        nothing = Turners((("k", WordMap()), ("m", WordMap())))
        self.assertEqual(nothing.table, (((), (), (0, 0)),))

    def test_against_a_plain_search(self):
        for seed in range(120):
            turns = some_turns(seed)
            self.assertEqual(Turners(turns).table, plain_table(turns))

    def test_bad_turners(self):
        nothing = WordMap()
        for turns, number in [(None, -1), ((), -1), ("k", -1), ([(name, nothing) for name in "klmno"], -1),
                              (((1, 2),) * 5, -1), ((("k", nothing), ("k", nothing)), 1), ((("k", ()),), 0),
                              ((("m", nothing), ("k", nothing)), 1), ((("k", nothing), None), 1), (("k",), 0),
                              ((("K", nothing),), 0), ((("k", nothing, 1),), 0), ((("*k", nothing),), 0),
                              ((("k", nothing), ("l", nothing), ("kk", nothing), None), 2), (({},), 0),
                              (((["k"], nothing),), 0), (((True, nothing),), 0)]:
            for ask in (Turners, lambda told: judge_turners(told, ())):
                with self.subTest(turns=turns):
                    with self.assertRaises(BadTurners) as caught:
                        ask(turns)
                    self.assertEqual(caught.exception.number, number)
        self.assertEqual(len(Turners([(name, nothing) for name in "klmn"]).turns), 4)

    def test_just_300_maps_and_more(self):
        self.assertEqual(len(Turners(ring_of(300))), 300)
        with self.assertRaises(TooMany) as caught:
            Turners(ring_of(301))
        self.assertEqual(caught.exception.word, "map")
        self.assertEqual(len(Turners(all_maps(4))), 256)
        with self.assertRaises(TooMany):
            Turners(all_maps(5))


class Rows(unittest.TestCase):
    def test_rows_of_any_length(self):
        for seed in range(40):
            turns = some_turns(seed)
            turners = Turners(turns)
            chance = random.Random(seed)
            for length in (0, 1, 2, 7, 40):
                row = tuple(chance.choice(turners.names) for _ in range(length))
                self.assertEqual(turners(row), done(turns, row))
                number = turners.along(list(row))
                self.assertEqual(turners.table[number][0], done(turns, row).pairs)
                self.assertEqual(turners.place_of(done(turns, row)), number)

    def test_a_long_row(self):
        turners = Turners(ring_of(300))
        self.assertEqual(turners.along(("r",) * 30007), 7)

    def test_the_table_has_the_least_rows(self):
        for seed in range(60):
            turns = some_turns(seed)
            least = {}
            for row in short_rows(turns, 3):
                least.setdefault(done(turns, row).pairs, row)
            told = {pairs: row for pairs, row, _ in Turners(turns).table if len(row) <= 3}
            self.assertEqual(told, least)

    def test_place_of(self):
        turners = Turners(SWAP)
        self.assertEqual(turners.place_of(WordMap()), 0)
        self.assertEqual(turners.place_of(SWAP[0][1]), 1)
        self.assertIsNone(turners.place_of(WordMap((("a", "b"),))))

    def test_bad_rows(self):
        turners = Turners(LINE)
        for row, number in [(None, -1), ("k", -1), ("km", -1), (5, -1), ({"k": 1}, -1), (("x",), 0), (("k", "K"), 1),
                            (["k", "m", True], 2), ((["k"],), 0), (("k", None, "x"), 1), (("",), 0), (({},), 0)]:
            for ask in (turners, turners.along, lambda told: ring(turners, told),
                        lambda told: undone(turners, told, ("a",)), lambda told: undone(turners, told, None)):
                with self.assertRaises(BadRow) as caught:
                    ask(row)
                self.assertEqual(caught.exception.number, number)


class Judged(unittest.TestCase):
    def judge(self, change, expected, turns=LINE):
        table = [list(triple) for triple in Turners(turns).table]
        change(table)
        with self.subTest(table=table):
            self.assertEqual(judge_turners(turns, table), expected)
            self.assertEqual(judge_turners(turns, tuple(tuple(triple) for triple in table)), expected)

    def test_own_tables_are_right(self):
        for seed in range(60):
            turns = some_turns(seed)
            table = Turners(turns).table
            self.assertIsNone(judge_turners(turns, table))
            self.assertIsNone(judge_turners([list(pair) for pair in turns], [list(map(list, row)) for row in table]))

    def test_in_another_order(self):
        for seed in range(60):
            turns = some_turns(seed)
            table = Turners(turns).table
            order = list(range(1, len(table)))
            random.Random(seed).shuffle(order)
            order = [0] + order
            place = {number: k for k, number in enumerate(order)}
            other = [(table[n][0], table[n][1], tuple(place[m] for m in table[n][2])) for n in order]
            self.assertIsNone(judge_turners(turns, other))

    def test_other_rows_and_maps_told_twice(self):
        table = Turners(SWAP).table
        self.assertIsNone(judge_turners(SWAP, (table[0], (table[1][0], ("s",) * 5, (0,)))))
        self.assertIsNone(judge_turners(SWAP, (table[0], table[1], ((), ("s", "s"), (1,)))))
        self.assertIsNone(judge_turners(SWAP, (((), (), (1,)), (table[1][0], ("s",), (2,)), ((), ("s", "s"), (1,)))))

    def test_no_table(self):
        for table in [None, (), [], "", "table", 5, {}, ((),), (None,), (5,), ("abc",), (((), ("s",), (1,)),),
                      (((("a", "b"),), (), (1,)),), (((), ()),), (((), (), (1,), ()),), ((None, (), (1,)),),
                      (((), None, (1,)),), (("", "", (1,)),), (((), {}, (1,)),), ((False, (), (1,)),)]:
            self.assertEqual(judge_turners(SWAP, table), -1)

    def test_the_first_triple_whatever_its_follows(self):
        for follows in [None, 5, (), (0,), (5,), (1, 1), "1", (True,)]:
            self.assertEqual(judge_turners(SWAP, (((), (), follows), Turners(SWAP).table[1])), 0)

    def test_a_triple_without_the_form(self):
        for thing in [None, 5, "abc", (), ((), ()), ((("a", "a"),), ("s",), (0,)), ((("b", "a"), ("a", "b")), ("s",), (0,)),
                      ((("a", "b"), ("b", "a")), "s", (0,)), ((("a", "b"), ("b", "a")), ("s",), 0),
                      ((("a", "b"), ("b", "a")), ("s",), None), ("ab", ("s",), (0,)), {}]:
            table = Turners(SWAP).table[:1] + (thing,)
            self.assertEqual(judge_turners(SWAP, table), 0)
            self.assertEqual(judge_turners(SWAP, Turners(SWAP).table + (thing,)), 2)

    def test_pairs_that_the_row_does_not_do(self):
        table = Turners(SWAP).table
        self.assertEqual(judge_turners(SWAP, table + (((("a", "b"),), ("s",), (0,)),)), 2)
        self.assertEqual(judge_turners(SWAP, table + (((), ("s",), (1,)),)), 2)
        self.assertEqual(judge_turners(SWAP, table + (((("a", "b"), ("b", "a"), ("x", "y")), ("s",), (0,)),)), 2)

    def test_a_row_that_is_none_of_names(self):
        table = Turners(SWAP).table
        for row in [("x",), ("s", "s", "x"), (True,), (None,), (["s"],), (0,), ({},), ("",)]:
            self.assertEqual(judge_turners(SWAP, table + ((table[1][0], row, (0,)),)), 2)

    def test_wrong_follows(self):
        def put(number, follows):
            return lambda table: table[number].__setitem__(2, follows)
        for follows in [(1, 2, 0), (1,), (), (2, 1), (1, 1), (1, 0), (-1, 2), (True, 2), ("1", 2), (1, 99), (1, None),
                        (1, (2,)), (1.0, 2), 5, "12", (1, -6)]:
            self.judge(put(0, follows), 0)
        self.judge(put(3, (0, 3)), 3)

    def test_spoilt_triples_spoil_those_that_lead_there(self):
        def put(table):
            table[5] = ["spoilt"]
        leads = min(n for n, triple in enumerate(Turners(LINE).table) if 5 in triple[2])
        self.judge(put, leads)
        self.judge(lambda table: table.pop(), min(n for n, triple in enumerate(Turners(LINE).table)
                                                  if len(Turners(LINE)) - 1 in triple[2]))

    def test_each_spoiling_is_told(self):
        for seed in range(80):
            turns = some_turns(seed)
            chance = random.Random(seed)
            table = [list(triple) for triple in plain_table(turns)]
            at = chance.randrange(len(table))
            deed = chance.randrange(3)
            if deed == 0 and len(table) > 1:
                place = chance.randrange(len(turns))
                follows = list(table[at][2])
                follows[place] = (follows[place] + 1 + chance.randrange(len(table) - 1)) % len(table)
                table[at][2] = tuple(follows)
            elif deed == 1:
                table[at][1] = table[at][1] + ("zz",)
            else:
                table[at][0] = WordMap(table[at][0]).then(WordMap((("q", "z"),))).pairs
            told = judge_turners(turns, table)
            # A map that is told wrongly also bars the triples that lead to it.
            self.assertIsNotNone(told)
            self.assertTrue(told == -1 and at == 0 or told == at or told < at and at in table[told][2])

    def test_tables_may_be_long(self):
        turns = all_maps(5)
        table = plain_table(turns)
        self.assertEqual(len(table), 3125)
        self.assertIsNone(judge_turners(turns, table))
        self.assertEqual(judge_turners(turns, table[:-1]), min(n for n, row in enumerate(table) if 3124 in row[2]))

    def test_300_maps_of_300_words(self):
        turns = ring_of(300)
        self.assertIsNone(judge_turners(turns, Turners(turns).table))
        table = plain_table(ring_of(400))
        self.assertIsNone(judge_turners(ring_of(400), table))


class Words(unittest.TestCase):
    def test_by_hand(self):
        turners = Turners(LINE)
        self.assertEqual(led(turners, "a", "c"), ("k", "k"))
        self.assertEqual(led(turners, "a", "b"), ("k",))
        self.assertEqual(led(turners, "b", "a"), ("m",))
        self.assertEqual(led(turners, "x", "x"), ())
        self.assertIsNone(led(turners, "c", "a"))
        self.assertIsNone(led(turners, "x", "a"))
        self.assertEqual(gathered(turners, ("a", "b", "c")), ("k", "k"))
        self.assertEqual(gathered(turners, ["b"]), ())
        self.assertIsNone(gathered(turners, ("a", "x")))
        self.assertIsNone(surely_gathered(turners, ("a", "b")))
        self.assertEqual(surely_gathered(turners, ("c",)), 0)
        self.assertEqual(surely_gathered(Turners(LINE[:1]), ("a", "b", "c")), 2)
        self.assertEqual(surely_gathered(Turners(LINE[:1]), ("b", "c")), 1)

    def test_against_a_plain_search(self):
        for seed in range(60):
            turns = some_turns(seed)
            turners = Turners(turns)
            rows = [(row, done(turns, row)) for row in short_rows(turns, 4)]
            for word, other in itertools.product(WORDS + ("x",), repeat=2):
                found = [row for row, word_map in rows if word_map(word) == other]
                told = led(turners, word, other)
                self.assertEqual(told if told is None or len(told) <= 4 else None, found[0] if found else None)
                if told is not None:
                    self.assertEqual(turners(told)(word), other)
            for size in (1, 2, 3):
                for words in itertools.combinations(WORDS, size):
                    found = [row for row, word_map in rows if len({word_map(word) for word in words}) == 1]
                    told = gathered(turners, words)
                    self.assertEqual(told if told is None or len(told) <= 4 else None, found[0] if found else None)
                    sure = [n for n in range(5) if all(len({word_map(word) for word in words}) == 1
                                                       for row, word_map in rows if len(row) == n)]
                    told = surely_gathered(turners, words)
                    self.assertEqual(told if told is None or told <= 4 else None, sure[0] if sure else None)

    def test_a_long_way_to_gather(self):
        words = [letters(k) for k in range(300)]
        line = Turners((("l", WordMap.of(tuple(zip(words, words[1:])))),))
        self.assertEqual(len(line), 300)
        self.assertEqual(surely_gathered(line, words), 299)
        self.assertEqual(gathered(line, words), ("l",) * 299)
        self.assertEqual(led(line, words[0], words[-1]), ("l",) * 299)
        self.assertIsNone(surely_gathered(Turners(ring_of(300)), words))

    def test_bad_lots(self):
        turners = Turners(LINE)
        for words in [None, (), [], "a", ("b", "a"), ("a", "a"), ("a", 1), ("*a",), ("",), (True,), {"a": 1}, (["a"],)]:
            for ask in (gathered, surely_gathered, lambda told, lot: undone(told, (), lot)):
                with self.assertRaises(BadLot) as caught:
                    ask(turners, words)
                self.assertIs(caught.exception.lot, words)


class Back(unittest.TestCase):
    def test_by_hand(self):
        turners = Turners(LINE)
        self.assertEqual(undone(turners, (), ("a", "b")), ())
        self.assertEqual(undone(turners, ["m"], ["a", "b"]), ("m",))
        self.assertEqual(undone(turners, ("m", "m"), ("a", "b")), ())
        self.assertEqual(undone(turners, ("k",), ("a",)), ("m",))
        self.assertIsNone(undone(turners, ("k",), ("a", "b")))
        self.assertEqual(undone(turners, ("k",), ("c",)), ())
        self.assertEqual(ring(turners, ()), (0, 1))
        self.assertEqual(ring(turners, ("m",)), (0, 2))
        self.assertEqual(ring(turners, ["k"]), (2, 1))
        self.assertEqual(spare(turners), ())
        twice = Turners(LINE + (("n", LINE[0][1].then(LINE[0][1])), ("o", WordMap())))
        self.assertEqual(spare(twice), ("n", "o"))

    def test_each_name_by_itself(self):
        both = Turners((("k", SWAP[0][1]), ("m", SWAP[0][1])))
        self.assertEqual(spare(both), ("k", "m"))
        self.assertEqual(spare(Turners((("k", WordMap()),))), ("k",))
        self.assertEqual(spare(Turners(SWAP)), ())

    def test_a_ring_with_a_way_to_it(self):
        turns = (("k", WordMap((("a", "b"), ("b", "c"), ("c", "d"), ("d", "e"), ("e", "c")))),)
        self.assertEqual(ring(Turners(turns), ("k",)), (2, 3))
        self.assertEqual(ring(Turners(turns), ("k", "k")), (1, 3))
        self.assertEqual(ring(Turners(ring_of(300)), ("r",)), (0, 300))
        self.assertEqual(ring(Turners(ring_of(300)), ("r",) * 7), (0, 300))

    def test_against_a_plain_search(self):
        for seed in range(25):
            turns = some_turns(seed)
            turners = Turners(turns)
            rows = [(row, done(turns, row)) for row in short_rows(turns, 4)]
            chance = random.Random(seed)
            for row, word_map in chance.sample(rows, min(len(rows), 6)):
                words = tuple(sorted(chance.sample(WORDS, chance.randint(1, 3))))
                found = [back for back, other in rows if all(other(word_map(word)) == word for word in words)]
                told = undone(turners, row, words)
                self.assertEqual(told if told is None or len(told) <= 4 else None, found[0] if found else None)
                self.assertEqual(ring(turners, row), self.ring_of(turns, row))

    def ring_of(self, turns, row):
        times = [done(turns, row * n) for n in range(40)]
        return next((n, m) for n in range(20) for m in range(1, 20) if times[n] == times[n + m])

    def test_spare_against_tables_without_the_name(self):
        for seed in range(120):
            turns = some_turns(seed)
            maps = {pairs for pairs, _, _ in plain_table(turns)}
            told = tuple(name for name, _ in turns
                         if {row[0] for row in plain_table([pair for pair in turns if pair[0] != name])} == maps)
            self.assertEqual(spare(Turners(turns)), told)


if __name__ == "__main__":
    unittest.main()
