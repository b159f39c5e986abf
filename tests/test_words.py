import itertools
import unittest

from keptacross.errors import BadMap
from keptacross.wordmaps import WordMap
from keptacross.words import GAP, is_note, is_token, is_word

NO_TOKENS = ["", "_", "*", "**a", "a*", "A", "a b", " a", "a1", "\u00e9", "abcdefghi", "*abcdefghi", "*_", "a\n",
             None, True, False, 0, 1, 2.5, b"a", ("a",), ["a"], {"a": 1}, {"a"}, object(), ()]


class Words(unittest.TestCase):
    def test_words(self):
        for thing in ("a", "z", "abcdefgh", "zzzzzzzz"):
            self.assertIs(is_word(thing), True)
            self.assertIs(is_note(thing), False)
            self.assertIs(is_token(thing), True)

    def test_notes(self):
        for thing in ("*a", "*z", "*abcdefgh"):
            self.assertIs(is_word(thing), False)
            self.assertIs(is_note(thing), True)
            self.assertIs(is_token(thing), True)

    def test_whatever_the_thing_is(self):
        for thing in NO_TOKENS:
            with self.subTest(thing=thing):
                self.assertIs(is_word(thing), False)
                self.assertIs(is_note(thing), False)
                self.assertIs(is_token(thing), False)

    def test_a_list_that_contains_itself(self):
        ring = []
        ring.append(ring)
        self.assertIs(is_token(ring), False)

    def test_gap(self):
        self.assertEqual(GAP, "_")


class WordMaps(unittest.TestCase):
    def test_pairs(self):
        word_map = WordMap((("a", "b"), ("b", "a"), ("cat", "cats")))
        self.assertEqual(word_map.pairs, (("a", "b"), ("b", "a"), ("cat", "cats")))
        self.assertEqual(len(word_map), 3)
        self.assertEqual(list(word_map), [("a", "b"), ("b", "a"), ("cat", "cats")])
        self.assertEqual([word_map(word) for word in ("a", "b", "cat", "cats", "d")], ["b", "a", "cats", "cats", "d"])

    def test_the_map_that_changes_nothing(self):
        self.assertEqual(WordMap().pairs, ())
        self.assertEqual(len(WordMap()), 0)
        self.assertEqual(WordMap()("a"), "a")
        self.assertEqual(WordMap(), WordMap(()))

    def test_equal(self):
        self.assertEqual(WordMap((("a", "b"),)), WordMap([["a", "b"]]))
        self.assertNotEqual(WordMap((("a", "b"),)), WordMap((("a", "c"),)))
        self.assertIs(WordMap() == (), False)
        self.assertIs(WordMap((("a", "b"),)) == (("a", "b"),), False)
        self.assertIs(WordMap() != None, True)  # noqa: E711

    def test_in(self):
        word_map = WordMap((("a", "b"),))
        self.assertIs("a" in word_map, True)
        for thing in ("b", "c", "", None, True, 0, ("a", "b"), ["a"], ["a", "b"], {}):
            self.assertIs(thing in word_map, False)

    def test_lists_are_kept_as_tuples_and_stay(self):
        pairs = [["a", "b"], ("c", "d")]
        word_map = WordMap(pairs)
        self.assertEqual(word_map.pairs, (("a", "b"), ("c", "d")))
        self.assertEqual(pairs, [["a", "b"], ("c", "d")])
        pairs[0][1] = "z"
        self.assertEqual(word_map.pairs, (("a", "b"), ("c", "d")))
        self.assertEqual(word_map("a"), "b")
        self.assertEqual(WordMap.of([["a", "b"]]).pairs, (("a", "b"),))

    def test_bad_maps_are_borne_as_they_were_passed(self):
        for pairs in [None, "ab", 5, True, (("a", "a"),), (("a",),), (("a", "b", "c"),), ("ab",), (("a", "b"), None),
                      (("b", "a"), ("a", "b")), (("a", "b"), ("a", "b")), (("a", "b"), ("a", "c")), (("a", 1),),
                      ((True, "b"),), (("a", "*b"),), (("a", "_"),), (("", "b"),), (("abcdefghi", "b"),),
                      [["a", ["b"]]], ["ab"], {"a": "b"}]:
            with self.subTest(pairs=pairs):
                with self.assertRaises(BadMap) as caught:
                    WordMap(pairs)
                self.assertIs(caught.exception.pairs, pairs)

    def test_then(self):
        first = WordMap((("a", "b"), ("b", "c")))
        second = WordMap((("b", "a"), ("c", "d"), ("x", "y")))
        self.assertEqual(first.then(second).pairs, (("b", "d"), ("c", "d"), ("x", "y")))
        self.assertEqual(second.then(first).pairs, (("a", "b"), ("c", "d"), ("x", "y")))
        self.assertEqual(first.then(WordMap()), first)
        self.assertEqual(WordMap().then(first), first)
        swap = WordMap((("a", "b"), ("b", "a")))
        self.assertEqual(swap.then(swap), WordMap())

    def test_then_is_one_map_behind_the_other(self):
        words = ["a", "b", "c"]
        maps = [WordMap.of(tuple(zip(words, images))) for images in itertools.product(words + ["d"], repeat=3)]
        for first, second in itertools.product(maps[::5], maps[::3]):
            both = first.then(second)
            for word in words + ["d", "e"]:
                self.assertEqual(both(word), second(first(word)))
            self.assertEqual(both, WordMap(both.pairs))

    def test_of(self):
        self.assertEqual(WordMap.of(()).pairs, ())
        self.assertEqual(WordMap.of((("b", "c"), ("a", "b"), ("b", "d"))).pairs, (("a", "b"), ("b", "c")))
        self.assertEqual(WordMap.of((("a", "a"), ("a", "b"), ("c", "c"))).pairs, ())


if __name__ == "__main__":
    unittest.main()
