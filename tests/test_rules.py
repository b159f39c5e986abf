import itertools
import unittest

import brute
from keptacross.errors import BadRules
from keptacross.rules import Rules


def broken_plainly(rows, page):
    for place in range(len(page)):
        if any(tuple(page[place:place + len(row)]) == row for row in rows):
            return place
    return None


class RulesThemselves(unittest.TestCase):
    def test_attributes(self):
        rules = Rules([["*n"], ["a", "b"], ("b",)])
        self.assertEqual(rules.rows, (("*n",), ("a", "b"), ("b",)))
        self.assertEqual((len(rules), list(rules)), (3, [("*n",), ("a", "b"), ("b",)]))
        self.assertEqual(len(Rules(())), 0)
        self.assertEqual(len(Rules(tuple((letter,) for letter in "abcdef"))), 6)

    def test_equal(self):
        self.assertEqual(Rules((("a",),)), Rules([["a"]]))
        self.assertNotEqual(Rules((("a",),)), Rules((("a", "a"),)))
        self.assertIs(Rules(()) == (), False)

    def test_bad_rules(self):
        for rows, number in [(None, -1), ("a", -1), ({}, -1), (tuple((letter,) for letter in "abcdefg"), -1),
                             ((None,) * 7, -1), ((("a",), ()), 1), (((),), 0), ((("a", "b", "c"),), 0), (("a",), 0),
                             ((("a",), ("_",)), 1), ((("a",), ("",)), 1), ((("a", 1),), 0), ((("b",), ("a",)), 1),
                             ((("a",), ("a",)), 1), ((["a"], ("a",)), 1), ((("a", "b"), ("a",)), 1),
                             ((("a",), ("a", "*b"), ("a", "*b"), None), 2), ((("a",), True), 1)]:
            with self.assertRaises(BadRules) as caught:
                Rules(rows)
            self.assertEqual(caught.exception.number, number, rows)

    def test_broken(self):
        rules = Rules((("*n",), ("a", "b")))
        for page, place in [((), None), (("a",), None), (("b", "a"), None), (("b", "a", "b"), 1), (("a", "*n", "b"), 1),
                            (("a", "b", "*n"), 0), (["a", "a", "b"], 1), (("*n",), 0), (("a", "x", "b"), None)]:
            self.assertEqual(rules.broken(page), place, page)
        self.assertIsNone(Rules(()).broken(("a", "b")))

    def test_broken_against_a_plain_search(self):
        for seed in range(60):
            rules = brute.some_rules(seed, ("a", "b"))
            for page in itertools.product(("a", "b", "x", "*a"), repeat=4):
                self.assertEqual(rules.broken(page), broken_plainly(rules.rows, page))

    def test_covers(self):
        strict = Rules((("a",), ("b", "c")))
        for rows, covered in [((), True), ((("a",),), True), ((("a", "x"), ("x", "a")), True), ((("b", "c"),), True),
                              ((("b",),), False), ((("c", "b"),), False), ((("a", "b"), ("b",)), False)]:
            self.assertIs(strict.covers(Rules(rows)), covered, rows)
        self.assertIs(Rules(()).covers(Rules(())), True)
        self.assertIs(Rules(()).covers(strict), False)

    def test_what_is_covered_is_broken_at_most_as_often(self):
        pages = list(itertools.product(("a", "b", "x", "y", "*a"), repeat=2))
        for seed in range(120):
            one, other = brute.some_rules(seed, ("a", "b")), brute.some_rules(seed + 500, ("a", "b"))
            more = all(one.broken(page) is not None for page in pages if other.broken(page) is not None)
            if one.covers(other):
                self.assertTrue(more)

    def test_plus(self):
        one, other = Rules((("a",), ("b", "c"))), Rules((("a",), ("a", "x")))
        self.assertEqual((one + other).rows, (("a",), ("a", "x"), ("b", "c")))
        self.assertEqual((one + Rules(())).rows, one.rows)
        many = Rules(tuple((letter,) for letter in "abcde"))
        self.assertEqual(len(many + Rules((("a",), ("z",)))), 6)
        with self.assertRaises(BadRules) as caught:
            many + Rules((("y",), ("z",)))
        self.assertEqual(caught.exception.number, -1)


if __name__ == "__main__":
    unittest.main()
