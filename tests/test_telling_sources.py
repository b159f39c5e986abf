import unittest

import brute
import plain
from keptacross.books import Book
from keptacross.carrying import BEGINNING
from keptacross.errors import BadPage, BadWant, Foreign, NoSource, TooMany, Unsettled
from keptacross.roads import Road
from keptacross.sources import Sources
from keptacross.styles import Style
from keptacross.telling import told_by
from keptacross.terms import Term
from keptacross.tongues import Tongue
from keptacross.wants import Words
from test_keeping_able import letters
from test_outlooks import counter
from test_wants_known import made

BEGUN = (BEGINNING,)
NO_PAGES = [(None, -1), ("x", -1), (("x",) * 61, -1), ({}, -1), (("x", "_"), 1), (("x", "", None), 1), ((("x",),), 0),
            (("*n", "*"), 1), (("x", 5), 1), ((True,), 0), (("abcdefghi",), 0), ([None], 0)]


def graph_plainly(road, page, style):
    """The graph of the sources of a page, as [33] tells."""
    nodes = [(0, road.beginning, 0)]
    steps = []
    for room, standing, place in nodes:
        ahead = []
        for word, leads in style.let(room):
            for pick in range(road.picks):
                said, behind = road.hear(standing, word, pick)
                if page[place:place + len(said)] == said:
                    node = (leads, behind, place + len(said))
                    if node not in nodes:
                        nodes.append(node)
                    ahead.append((word, pick, node))
        steps.append(ahead)
    ends = [style.is_end(room) and road.finish(standing) == page[place:] for room, standing, place in nodes]
    live = {node for node, end in zip(nodes, ends) if end}
    for _ in nodes:
        live |= {node for node, ahead in zip(nodes, steps) if any(step[2] in live for step in ahead)}
    kept = [node for node in nodes if node in live]
    return tuple((node, tuple((word, pick, kept.index(other)) for word, pick, other in steps[nodes.index(node)]
                              if other in live), int(ends[nodes.index(node)])) for node in kept)


def wants_within(road, want, page, style, length):
    """What is wanted of the sources of this page with at most so many words."""
    found = set()
    level = {(0, road.beginning, 0, want.beginning, ())}
    for _ in range(length + 1):
        longer = set()
        for room, standing, place, wanting, row in level:
            if style.is_end(room) and road.finish(standing) == page[place:]:
                found.add(row + want.finish(wanting))
            for word, leads in style.let(room):
                due, after = want.hear(wanting, word)
                for pick in range(road.picks):
                    said, behind = road.hear(standing, word, pick)
                    if page[place:place + len(said)] == said:
                        longer.add((leads, behind, place + len(said), after, row + due))
        level = longer
    return found


class Graphs(unittest.TestCase):
    def test_by_hand(self):
        road = Road(letters((("x",), ("y",)), (("y",),), (("x", "y"),)))
        sources = Sources(road, ("x", "y"), Style.free(("a", "b", "c")))
        first, one, two = [(0, BEGUN, place) for place in (0, 1, 2)]
        self.assertEqual(sources.graph, ((first, (("a", 0, 1), ("c", 0, 2), ("c", 1, 2)), 0),
                                         (one, (("a", 1, 2), ("b", 0, 2), ("b", 1, 2)), 0), (two, (), 1)))
        self.assertEqual((len(sources), list(sources), bool(sources)), (3, list(sources.graph), True))

    def test_dead_nodes_are_left_out(self):
        road = Road(letters((("x",),), (("x", "x"),)))
        style = Style(((("a", 1), ("b", 2)), (("a", 1),), ()), (2,))
        sources = Sources(road, ["x", "x"], style)
        self.assertEqual(sources.graph, (((0, BEGUN, 0), (("b", 0, 1),), 0), ((2, BEGUN, 2), (), 1)))

    def test_no_source(self):
        road = Road(letters((("x",),)))
        for page in [("y",), ("x", "y"), ("*x",)]:
            sources = Sources(road, page, Style.free(("a",)))
            self.assertEqual((sources.graph, len(sources), list(sources), bool(sources)), ((), 0, [], False))
        self.assertEqual(Sources(road, (), Style.free(("a",))).graph, (((0, BEGUN, 0), (), 1),))

    def test_endless_ones(self):
        road = Road(letters(((),), (("x",), ())))
        sources = Sources(road, ("x",), Style.free(("a", "b")))
        self.assertEqual(sources.graph, (((0, BEGUN, 0), (("a", 0, 0), ("a", 1, 0), ("b", 0, 1), ("b", 1, 0)), 0),
                                         ((0, BEGUN, 1), (("a", 0, 1), ("a", 1, 1), ("b", 1, 1)), 1)))

    def test_what_is_held_is_said_at_the_end(self):
        book = Book(Tongue(("a", "b")), (Term("l", ("a", "b"), (("x",),)), Term("s", ("a",), (("y",), ("x",)))))
        sources = Sources(Road(book), ("x",), Style.free(("a", "b")))
        held = [(("", 0, (), (), (), (("a", pick),)),) for pick in (0, 1)]
        self.assertEqual(sources.graph, (((0, BEGUN, 0), (("a", 0, 1), ("a", 1, 2)), 0),
                                         ((0, held[0], 0), (("b", 0, 3), ("b", 1, 3)), 0),
                                         ((0, held[1], 0), (("b", 0, 3), ("b", 1, 3)), 1),
                                         ((0, BEGUN, 1), (), 1)))

    def test_against_a_plain_telling(self):
        several = 0
        for seed in range(200):
            road = brute.some_road(seed)
            words = road.books[0].tongue.words
            style = brute.some_style(seed, words)
            reading = brute.readings(style, road.picks, 3)[-1 - seed % 3:][0]
            page = brute.page(road, reading)
            sources = brute.asked(lambda: Sources(road, page, style))
            if sources is None:
                continue
            self.assertEqual(sources.graph, graph_plainly(road, page, style))
            self.assertTrue(sources)
            several += len(sources) > 4
        self.assertGreater(several, 40)

    def test_just_600_nodes_and_more(self):
        # A ring of so many silent states; live or not.
        self.assertEqual(len(Sources(Road(counter(600)), (), Style.free(("a",)))), 600)
        for page in ((), ("x",)):
            with self.assertRaises(TooMany) as caught:
                Sources(Road(counter(601)), page, Style.free(("a",)))
            self.assertEqual(caught.exception.word, "node")
        self.assertEqual(Sources(Road(counter(600)), ("x",), Style.free(("a",))).graph, ())

    def test_bad_pages(self):
        for page, number in NO_PAGES:
            for ask in (lambda: Sources(Road(counter(601)), page, Style.free(("a", "p"))),
                        lambda: told_by(Road(counter(601)), page, None, Style.free(("a", "p")))):
                with self.assertRaises(BadPage) as caught:
                    ask()
                self.assertEqual(caught.exception.number, number)
        self.assertEqual(len(Sources(Road(letters((("x",),))), ("x",) * 60, Style.free(("a",)))), 61)

    def test_foreign(self):
        with self.assertRaises(Foreign) as caught:
            Sources(Road(counter(601)), ("x",), Style.free(("a", "p", "q")))
        self.assertEqual(caught.exception.word, "p")


class Telling(unittest.TestCase):
    def setUp(self):
        self.road = Road(letters((("x",), ("y",)), (("y",),), (("z",),)))
        self.style = Style.free(("a", "b", "c"))

    def test_one_source(self):
        self.assertEqual(told_by(self.road, ("x", "z"), Words(("a", "b", "c")), self.style), ("a", "c"))
        self.assertEqual(told_by(self.road, ["x", "z"], Words(["b"]), self.style), ())
        self.assertEqual(told_by(self.road, (), Words(("a",)), self.style), ())

    def test_several_that_want_the_same(self):
        self.assertEqual(told_by(self.road, ("y", "z", "y"), Words(("c",)), self.style), ("c",))
        want = Road(letters((("n",),), (("n",),), (("m",),)))
        self.assertEqual(told_by(self.road, ("y", "z", "y"), want, self.style), ("n", "m", "n"))

    def test_unlike_things(self):
        for want in (Words(("a",)), self.road):
            page = ["z", "y"]
            with self.assertRaises(Unsettled) as caught:
                told_by(self.road, page, want, self.style)
            self.assertIs(caught.exception.page, page)

    def test_no_source(self):
        page = ["q", "*n"]
        with self.assertRaises(NoSource) as caught:
            told_by(self.road, page, Words(()), self.style)
        self.assertIs(caught.exception.page, page)

    def test_unlike_at_the_end_alone(self):
        want = Road(Book(Tongue(("a", "b", "c")), (Term("l", ("a", "c"), (("m",),)), Term("s", ("a",), (("n",),)),
                                                   Term("t", ("b",), (("n",),)))))
        self.assertEqual(told_by(self.road, ("y",), want, self.style), ("n",))
        other = Road(Book(Tongue(("a", "b", "c")), (Term("l", ("a", "c"), (("m",),)), Term("s", ("a",), (("n",),)))))
        self.assertRaises(Unsettled, told_by, self.road, ("y",), other, self.style)

    def test_endless_sources(self):
        road = Road(letters(((),), (("x",),)))
        style = Style.free(("a", "b"))
        self.assertEqual(told_by(road, ("x", "x"), Words(("b",)), style), ("b", "b"))
        self.assertRaises(Unsettled, told_by, road, ("x", "x"), Words(("a",)), style)
        silent = Road(letters(((),), (("n",),)))
        self.assertEqual(told_by(road, ("x", "x"), silent, style), ("n", "n"))

    def test_dead_nodes_do_not_count(self):
        style = Style(((("a", 1), ("b", 2)), (("c", 3),), (), ()), (2,))
        self.assertEqual(told_by(self.road, ("y",), Words(("a", "b")), style), ("b",))
        style = Style(((("a", 1), ("b", 2)), (("a", 3),), (("c", 3),), ()), (3,))
        self.assertEqual(told_by(self.road, ("y", "z"), Words(("a", "b")), style), ("b",))

    def test_against_a_plain_search(self):
        told = unsettled = none = 0
        for seed in range(260):
            road, want, style = made(seed)
            reading = brute.readings(style, road.picks, 3)[-1 - seed % 4:][0]
            page = brute.page(road, reading)
            if seed % 5 == 0:
                page = page[1:] + page[:1]
            try:
                row = told_by(road, page, want, style)
            except NoSource:
                none += 1
                self.assertEqual(wants_within(road, want, page, style, 6), set())
                continue
            except Unsettled:
                row = None
            except TooMany:
                continue
            wants = wants_within(road, want, page, style, 7)
            if row is not None:
                told += 1
                self.assertEqual(wants, {row})
            else:
                unsettled += 1
                self.assertGreater(len(wants), 1)
        self.assertGreater(told, 50)
        self.assertGreater(unsettled, 20)
        self.assertGreater(none, 5)

    def test_just_600_nodes_and_more(self):
        style = Style.free(("a",))
        self.assertEqual(told_by(Road(counter(600)), (), Words(()), style), ())
        self.assertRaises(NoSource, told_by, Road(counter(600)), ("x",), Words(()), style)
        self.assertRaises(Unsettled, told_by, Road(counter(600)), (), Words(("a",)), style)
        self.assertEqual(told_by(Road(counter(8)), (), Road(counter(75)), style), ())
        for road, want in [(counter(601), Words(("a",))), (counter(8), Road(counter(77))), (counter(601), Words(()))]:
            for page in ((), ("x",)):
                with self.assertRaises(TooMany) as caught:
                    told_by(Road(road), page, want, style)
                self.assertEqual(caught.exception.word, "node")

    def test_errors(self):
        style = Style.free(("a", "p", "q"))
        one, other = Road(counter(601)), Road(Book(Tongue(("a", "p"))))
        for want in (None, (), "a", counter(3)):
            with self.assertRaises(BadWant) as caught:
                told_by(one, ("x",), want, style)
            self.assertIs(caught.exception.want, want)
        for road, want, word in [(one, other, "p"), (other, one, "q"), (one, Words(("z",)), "p"),
                                 (Road(Book(Tongue(("a", "p", "q")))), other, "q")]:
            with self.assertRaises(Foreign) as caught:
                told_by(road, ("x",), want, style)
            self.assertEqual(caught.exception.word, word)


if __name__ == "__main__":
    unittest.main()
