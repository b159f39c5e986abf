import itertools
import random
import unittest

import brute
from keptacross.books import Book
from keptacross.errors import BadPage, BadWant, Foreign, NoSource, NoText, TooMany
from keptacross.questions import Questions, judge_plan
from keptacross.roads import Road
from keptacross.sourcetexts import SourceTexts
from keptacross.styles import Style
from keptacross.terms import Term
from keptacross.tongues import Tongue
from keptacross.wants import Words, wanted
from test_keeping_able import letters
from test_outlooks import counter
from test_sourcetexts import widening
from test_telling_sources import NO_PAGES
from test_wants_known import made


def answer(text, place):
    return text[place] if place < len(text) else ""


def least_plan(texts, rows):
    """The plan of [36], found once more: all places tried, for lots of texts."""
    if len(set(rows)) == 1:
        return 0, ("told", rows[0])
    tried = []
    for place in range(max(map(len, texts))):
        answers = sorted({answer(text, place) for text in texts})
        if len(answers) > 1:
            parts = [[k for k, text in enumerate(texts) if answer(text, place) == told] for told in answers]
            plans = [least_plan([texts[k] for k in part], [rows[k] for k in part]) for part in parts]
            branches = tuple((told, plan[1]) for told, plan in zip(answers, plans))
            tried.append((1 + max(plan[0] for plan in plans), place, ("ask", place, branches)))
    many, _, plan = min(tried)
    return many, plan


def asked_plainly(texts, rows, plan):
    """The greatest number of questions of a plan, None if it is none or does not settle the texts."""
    if not isinstance(plan, (tuple, list)) or not plan:
        return None
    if plan[0] == "told":
        told = brute.as_tuples(plan[1]) if len(plan) == 2 else None
        return 0 if isinstance(told, tuple) and all(row == told for row in rows) else None
    if plan[0] != "ask" or len(plan) != 3 or type(plan[1]) is not int or not 0 <= plan[1] <= 59:
        return None
    if not isinstance(plan[2], (tuple, list)):
        return None
    if not all(isinstance(pair, (tuple, list)) and len(pair) == 2 for pair in plan[2]):
        return None
    answers = sorted({answer(text, plan[1]) for text in texts})
    if [pair[0] for pair in plan[2]] != answers:
        return None
    most = 0
    for told, behind in plan[2]:
        left = [k for k, text in enumerate(texts) if answer(text, plan[1]) == told]
        many = asked_plainly([texts[k] for k in left], [rows[k] for k in left], behind)
        if many is None:
            return None
        most = max(most, many)
    return most + 1


def spoilt_plans(plan, seed):
    """Plans made from a right one, spoilt in each way at each place."""
    chance = random.Random(seed)
    yield brute.as_lists(plan)
    for thing in brute.STRANGE + (plan[:-1], plan + ((),), plan[:1], ("told",), ("ask",), ("ask", 0, ())):
        yield thing
    for k in range(len(plan)):
        for thing in brute.STRANGE + (59, 60, 61, 1, 2, "told", "ask"):
            yield plan[:k] + (thing,) + plan[k + 1:]
    if plan[0] == "ask":
        branches = plan[2]
        yield ("ask", plan[1], branches[::-1])
        yield ("ask", plan[1], branches[1:])
        yield ("ask", plan[1], branches[:1] + branches)
        yield ("ask", plan[1], branches + (("zz", ("told", ())),))
        yield ("ask", plan[1], (("", ("told", ())),) + branches)
        yield ("ask", plan[1], tuple(branches[:1] * len(branches)))
        for k, (told, behind) in enumerate(branches):
            for pair in [(told,), (told, behind, ()), ("q", behind), (None, behind), told, (behind, told)]:
                yield ("ask", plan[1], branches[:k] + (pair,) + branches[k + 1:])
            for other in itertools.islice(spoilt_plans(behind, seed + 1), 60):
                yield ("ask", plan[1], branches[:k] + ((told, other),) + branches[k + 1:])
            yield ("ask", plan[1], branches[:k] + ((told, chance.choice(branches)[1]),) + branches[k + 1:])


class Asking(unittest.TestCase):
    def setUp(self):
        self.style = Style.free(("a", "b", "c"))
        self.road = Road(letters((("x",),), (("x",),), (("x", "x"),)))
        self.all = Words(("a", "b", "c"))

    def test_by_hand(self):
        asked = Questions(self.road, ["x", "x"], self.all, self.style)
        self.assertEqual(asked.texts, (("c",), ("a", "a"), ("a", "b"), ("b", "a"), ("b", "b")))
        self.assertEqual(asked.count, 2)
        told = [("told", (word,)) for word in "c"] + [("told", (one, other)) for one in "ab" for other in "ab"]
        one = ("ask", 1, (("a", told[1]), ("b", told[2])))
        other = ("ask", 1, (("a", told[3]), ("b", told[4])))
        self.assertEqual(asked.plan, ("ask", 0, (("a", one), ("b", other), ("c", told[0]))))
        self.assertEqual(asked.lots, ((0, 1),))
        self.assertEqual(asked.settle(("c",)), (("c",), 1))
        self.assertEqual(asked.settle(["b", "a"]), (("b", "a"), 2))
        for text in [(), ("a",), ("c", "a"), None, "c", 0, [["c"]]]:
            with self.assertRaises(NoText) as caught:
                asked.settle(text)
            self.assertIs(caught.exception.number, text)

    def test_the_empty_answer(self):
        asked = Questions(self.road, ("x", "x"), Words(("c",)), self.style)
        self.assertEqual((asked.count, asked.lots), (1, ((0,), (1,))))
        self.assertEqual(asked.plan, ("ask", 0, (("a", ("told", ())), ("b", ("told", ())), ("c", ("told", ("c",))))))
        road = Road(letters((("x",), ()),))
        two = Style(((("a", 1),), (("a", 2),), ()), (1, 2))
        asked = Questions(road, ("x",), Words(("a",)), two)
        self.assertEqual(asked.plan, ("ask", 1, (("", ("told", ("a",))), ("a", ("told", ("a", "a"))))))
        self.assertEqual((asked.settle(("a",)), asked.lots), ((("a",), 1), ((1,),)))

    def test_nothing_to_ask(self):
        asked = Questions(self.road, ("x", "x", "x"), Words(()), self.style)
        self.assertEqual((asked.count, asked.plan, asked.lots), (0, ("told", ()), ((),)))
        asked = Questions(self.road, (), self.all, self.style)
        self.assertEqual((asked.texts, asked.count, asked.plan, asked.lots), (((),), 0, ("told", ()), ((),)))
        self.assertEqual(asked.settle([]), ((), 0))

    def test_the_least_place_of_several(self):
        road = Road(letters((("x",), ("y",)), (("x",), ("y",))))
        style = Style(((("a", 1), ("b", 2)), (("a", 3),), (("b", 3),), ()), (3,))
        asked = Questions(road, ("x", "x"), Words(("a", "b")), style)
        self.assertEqual((asked.plan[1], asked.count, asked.lots), (0, 1, ((0,), (1,))))

    def test_against_all_plans(self):
        several = deep = 0
        for seed in range(400):
            road, want, style = made(seed)
            reading = brute.readings(style, road.picks, 3)[-1 - seed % 4:][0]
            page = brute.page(road, reading)
            try:
                asked = Questions(road, page, want, style)
            except TooMany:
                continue
            rows = [wanted(want, text) for text in asked.texts]
            self.assertEqual(asked.texts, tuple(SourceTexts(road, page, style).upto(10)))
            self.assertEqual((asked.count, asked.plan), least_plan(asked.texts, rows))
            self.assertEqual(judge_plan(asked.texts, want, asked.plan), asked.count)
            for text, row in zip(asked.texts, rows):
                told, many = asked.settle(text)
                self.assertEqual(told, row)
                self.assertLessEqual(many, asked.count)
            good = []
            for lot in [lot for k in range(11) for lot in itertools.combinations(range(6), k)]:
                seen = {}
                for text, row in zip(asked.texts, rows):
                    seen.setdefault(tuple(answer(text, k) for k in lot), set()).add(row)
                if all(len(told) == 1 for told in seen.values()) and not any(set(one) <= set(lot) for one in good):
                    good.append(lot)
            if max(map(len, asked.texts)) <= 6:
                self.assertEqual(asked.lots, tuple(good))
            several += asked.count > 0
            deep += asked.count > 1
        self.assertGreater(several, 12)
        self.assertGreater(deep, 2)

    def test_lots_of_texts_by_chance(self):
        # Texts told apart by a road that says the same for all, in a style of just these texts.
        for seed in range(60):
            chance = random.Random(seed)
            style = brute.some_style(seed, ("a", "b", "c"))
            road = Road(letters((("x",),), (("x",),), (("x", "x"),)))
            page = ("x",) * chance.randint(1, 4)
            for want in (Words(("a", "b", "c")), Words(("a",)), Words(("b", "c"))):
                try:
                    asked = Questions(road, page, want, style)
                except (TooMany, NoSource):
                    continue
                rows = [wanted(want, text) for text in asked.texts]
                self.assertEqual((asked.count, asked.plan), least_plan(asked.texts, rows))

    def test_just_12_texts_and_more(self):
        def style(last):
            return Style(((("a", 1), ("b", 1), ("c", 1)), (("a", 2), ("b", 2)), tuple((word, 3) for word in last), ()), (3,))

        road = Road(letters(*[(("x",),)] * 3))
        asked = Questions(road, ("x",) * 3, self.all, style("ab"))
        self.assertEqual((len(asked.texts), asked.count, asked.lots), (12, 3, ((0, 1, 2),)))
        thirteen = Style(((("a", 1), ("b", 1), ("c", 4)), (("a", 2), ("b", 2), ("c", 2)), (("a", 3), ("b", 3)), (),
                          (("a", 5),), (("a", 3),)), (3,))
        self.assertEqual(SourceTexts(road, ("x",) * 3, thirteen).count, 13)
        self.raises_too_many("text", road, ("x",) * 3, thirteen)
        endless = Road(letters(((),), (("x",),), (("x",),)))
        self.raises_too_many("text", endless, ("x",), self.style)

    def raises_too_many(self, word, road, page, style, want=None):
        with self.assertRaises(TooMany) as caught:
            Questions(road, page, want or self.all, style)
        self.assertEqual(caught.exception.word, word)

    def test_just_10_words_and_more(self):
        road = Road(letters((("x",),)))
        asked = Questions(road, ("x",) * 10, Words(("a",)), Style.free(("a",)))
        self.assertEqual(asked.texts, (("a",) * 10,))
        self.raises_too_many("place", road, ("x",) * 11, Style.free(("a",)))
        # The number of the texts goes ahead of their length.
        self.raises_too_many("text", Road(letters((("x",),), (("x",),))), ("x",) * 11, Style.free(("a", "b")))

    def test_ten_words_that_all_count(self):
        # Twelve texts of ten words, each with one b at its own place, or none, or others.
        style = Style(((("a", 0), ("b", 1)), (("a", 1),)), (0, 1))
        road = Road(letters((("x",),), (("x",),)))
        asked = Questions(road, ("x",) * 10, Words(("b",)), style)
        self.assertEqual((len(asked.texts), asked.count), (11, 10))
        self.assertEqual(asked.lots, (tuple(range(10)),))
        rows = [wanted(Words(("b",)), text) for text in asked.texts]
        self.assertEqual((asked.count, asked.plan[1]), (10, 0))
        self.assertEqual(judge_plan(asked.texts, Words(("b",)), asked.plan), 10)
        self.assertEqual(len(set(rows)), 2)
        every = Questions(road, ("x",) * 10, Words(("a", "b")), style)
        self.assertEqual(every.count, 10)

    def test_errors(self):
        style = Style.free(("a", "p", "q"))
        one, other = Road(counter(601)), Road(Book(Tongue(("a", "p"))))
        for page, number in NO_PAGES:
            with self.assertRaises(BadPage) as caught:
                Questions(one, page, None, style)
            self.assertEqual(caught.exception.number, number)
        for want in (None, (), "a", counter(3)):
            with self.assertRaises(BadWant) as caught:
                Questions(one, ("x",), want, style)
            self.assertIs(caught.exception.want, want)
            with self.assertRaises(BadWant) as caught:
                judge_plan((("a",),), want, None)
            self.assertIs(caught.exception.want, want)
        for road, want, word in [(one, other, "p"), (other, one, "q"), (one, Words(("z",)), "p"),
                                 (Road(Book(Tongue(("a", "p", "q")))), other, "q")]:
            with self.assertRaises(Foreign) as caught:
                Questions(road, ("x",), want, style)
            self.assertEqual(caught.exception.word, word)
        self.raises_too_many("node", one, ("x",), Style.free(("a",)))
        self.raises_too_many("lot", *widening(2))
        page = ["y"]
        with self.assertRaises(NoSource) as caught:
            Questions(self.road, page, self.all, self.style)
        self.assertIs(caught.exception.page, page)


class Judged(unittest.TestCase):
    TEXTS = ((), ("a",), ("a", "b"), ("b", "b"), ("b", "a", "c"))
    WANT = Words(("a", "c"))

    def plan(self):
        rows = [wanted(self.WANT, text) for text in self.TEXTS]
        return least_plan(self.TEXTS, rows)

    def test_by_hand(self):
        many, plan = self.plan()
        self.assertEqual(judge_plan(self.TEXTS, self.WANT, plan), many)
        self.assertEqual(judge_plan(brute.as_lists(self.TEXTS), self.WANT, brute.as_lists(plan)), many)
        told = ("told", ("b",))
        every = Words(("a", "b"))
        self.assertEqual(judge_plan((("b",),), every, told), 0)
        self.assertEqual(judge_plan((("b",),), every, ("ask", 59, (("", told),))), 1)
        self.assertIsNone(judge_plan((("b",),), every, ("ask", 60, (("", told),))))
        self.assertIsNone(judge_plan((("b",), ("a",)), every, told))

    def test_plans_spoilt_in_each_way(self):
        many, plan = self.plan()
        rows = [wanted(self.WANT, text) for text in self.TEXTS]
        wrong = right = 0
        for other in spoilt_plans(plan, 5):
            judged = judge_plan(self.TEXTS, self.WANT, other)
            self.assertEqual(judged, asked_plainly(self.TEXTS, rows, other), other)
            wrong += judged is None
            right += judged is not None
        self.assertGreater(wrong, 250)
        self.assertGreater(right, 1)

    def test_a_very_deep_plan(self):
        plan = ("told", ("a",))
        for k in range(20000):
            plan = ("ask", k % 60, (("a" if k % 60 == 0 else "", plan),))
        self.assertEqual(judge_plan((("a",),), Words(("a",)), plan), 20000)

    def test_a_road_as_want(self):
        want = Road(letters((("n",),), (("n",),), (("m",),)))
        texts = (("a",), ("b",), ("c",))
        plan = ("ask", 0, (("a", ("told", ("n",))), ("b", ("told", ["n"])), ("c", ("told", ("m",)))))
        self.assertEqual(judge_plan(texts, want, plan), 1)
        self.assertIsNone(judge_plan(texts, want, ("told", ("n",))))


if __name__ == "__main__":
    unittest.main()
