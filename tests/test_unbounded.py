"""Tables are judged however long they are, and whatever is in them: the bounds are those of what is told."""

import unittest

from keptacross.able import Able, judge_able
from keptacross.alike import Alike, judge_alike
from keptacross.atonce import AtOnce, judge_at_once
from keptacross.carrying import BEGINNING
from keptacross.errors import TooMany
from keptacross.keeping import Keeping, judge_keeping
from keptacross.known import Known
from keptacross.knownlook import judge_known
from keptacross.roads import Road
from keptacross.rules import Rules
from keptacross.seams import Seams, judge_seams
from keptacross.styles import Style
from keptacross.uses import judge_use
from keptacross.wants import Words
from test_outlooks import counter

NOTHING = ((), ())
STYLE = Style.free(("a",))
RULES = Rules((("x",),))


def standings(road, many):
    """The standings of a road, one behind the other, when a comes again and again."""
    found = [road.beginning]
    while len(found) < many:
        found.append(road.hear(found[-1], "a")[1])
    return found


class Unbounded(unittest.TestCase):
    def setUp(self):
        self.ring = Road(counter(1001))
        self.rows = standings(self.ring, 1001)

    def spoilt(self, judge, table):
        """A right table, and the same one without its last row: then the row ahead of it leads nowhere."""
        self.assertIsNone(judge(tuple(table)))
        self.assertEqual(judge(list(table[:-1])), len(table) - 2)
        self.assertEqual(judge(table + [None]), len(table))

    def test_keeping(self):
        self.assertRaises(TooMany, Keeping, self.ring, RULES, STYLE)
        self.spoilt(lambda table: judge_keeping(self.ring, RULES, STYLE, table), [(0, row, "") for row in self.rows])

    def test_able(self):
        self.assertRaises(TooMany, Able, self.ring, RULES, STYLE)
        self.spoilt(lambda table: judge_able(self.ring, RULES, STYLE, table), [(0, ((row, ""),)) for row in self.rows])

    def test_at_once(self):
        self.assertRaises(TooMany, AtOnce, self.ring, RULES, STYLE)
        self.spoilt(lambda table: judge_at_once(self.ring, RULES, STYLE, 0, table),
                    [(0, row, "", ("a",)) for row in self.rows])

    def test_alike(self):
        other = Road(counter(7))
        self.assertRaises(TooMany, Alike, self.ring, other, STYLE)
        self.spoilt(lambda table: judge_alike(self.ring, other, STYLE, table),
                    [(0, one, two, NOTHING) for one, two in zip(self.rows, standings(other, 1001))])

    def test_seams(self):
        book = self.ring.books[0]
        self.assertRaises(TooMany, Seams, book, STYLE, ("turn",))
        self.spoilt(lambda table: judge_seams(book, STYLE, ("turn",), table),
                    [(0, row[0], row[0], NOTHING) for row in self.rows])

    def test_known(self):
        road, want = Road(counter(45)), Words(())
        self.assertRaises(TooMany, Known, road, want, STYLE)
        sides = [(0, row, ()) for row in standings(road, 45)] + [()]
        table = [(left, right, NOTHING, NOTHING) for left in sides for right in sides]
        self.assertEqual(table[0][:2], ((0, (BEGINNING,), ()), (0, (BEGINNING,), ())))
        self.assertIsNone(judge_known(road, want, STYLE, table))
        self.assertIsNotNone(judge_known(road, want, STYLE, table[:-1]))
        self.assertEqual(judge_known(road, want, STYLE, table + [table[0][:3]]), len(table))


class Strange(unittest.TestCase):
    def test_tuples_that_are_no_standings_raise_nothing(self):
        road, want = Road(counter(2)), Road(counter(1))
        good = BEGINNING
        no_standings = [(), (1,), (good, good), ((),), ("",), (good[:5],), (good + ((),),), ((5,) + good[1:],),
                        (good[:1] + (2,) + good[2:],), (good[:1] + (True,) + good[2:],), (good[:2] + ("a",) + good[3:],),
                        (good[:2] + ((1,),) + good[3:],), (good[:3] + (5,) + good[4:],), (good[:4] + (("ab",),) + good[5:],),
                        (good[:4] + ((("a", 1),),) + good[5:],), (good[:4] + ((("a",),),) + good[5:],),
                        (good[:5] + (("a",),),), (good[:5] + ((("a", True),),),), (good[:5] + (((1, 1),),),),
                        (good[:5] + ((({}, 0),),),), ({},), ([],), (None,)]
        for thing in no_standings:
            side, right = (0, thing, (good,)), (0, road.beginning, thing)
            self.assertEqual(judge_keeping(road, RULES, STYLE, ((0, thing, ""), (0, road.beginning, ""))), 0)
            self.assertEqual(judge_able(road, RULES, STYLE, ((0, ((thing, ""),)), (0, ((road.beginning, ""),)))), 0)
            self.assertEqual(judge_at_once(road, RULES, STYLE, 0, ((0, thing, "", ("a",)),
                                                                  (0, road.beginning, "", ("a",)))), 0)
            first = (0, road.beginning, road.beginning, NOTHING)
            self.assertEqual(judge_alike(road, road, STYLE, ((0, thing, road.beginning, NOTHING), first)), 0)
            self.assertEqual(judge_alike(road, road, STYLE, ((0, road.beginning, thing, NOTHING), first)), 0)
            book, first = road.books[0], (0, good, good, NOTHING)
            for row in ((0, good, thing, NOTHING), (0, thing, good, NOTHING)):
                self.assertEqual(judge_seams(book, STYLE, (), (row, first)), 0)
            table = Known(road, want, STYLE).table
            for spoilt in (side, right):
                self.assertEqual(judge_known(road, want, STYLE, table + ((spoilt, (), NOTHING, None),)), len(table))
        for thing in [row[0] for row in no_standings if len(row) == 1]:
            if thing != good:
                self.assertEqual(judge_use(counter(2), STYLE, "t", ((0, thing), (0, good))), 0)


if __name__ == "__main__":
    unittest.main()
