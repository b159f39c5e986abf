"""Questions to the author of a page: the least number with which what is wanted can surely be settled."""

from keptacross.errors import NoSource, NoText, TooMany
from keptacross.notes import least_of, lots_of
from keptacross.pagewalk import checked_page
from keptacross.rows import is_below, is_row, kept
from keptacross.sourcetexts import SourceTexts
from keptacross.styles import meet
from keptacross.wants import check_want, meet_want, wanted

MOST_TEXTS = 12
MOST_WORDS = 10
MOST_PLACES = 60


def word_at(text, place):
    """What the author answers: the word at a place of a text, or the empty string."""
    return text[place] if place < len(text) else ""


def parted(texts, left, place):
    """The numbers of the texts that are left, by the answers that they give, in the order of the answers."""
    found = {}
    for number in left:
        found.setdefault(word_at(texts[number], place), []).append(number)
    return [(answer, tuple(found[answer])) for answer in sorted(found)]


class Planner:
    """Finds the plan with the least number of questions, for some texts and what is wanted of each."""

    def __init__(self, texts, rows):
        self._texts = texts
        self._rows = rows
        self._places = max([len(text) for text in texts])
        self._plans = {}

    def best(self, left):
        """The number of questions, and the plan, for the texts with these numbers."""
        if left not in self._plans:
            self._plans[left] = self._searched(left)
        return self._plans[left]

    def _searched(self, left):
        row = self._rows[left[0]]
        if all([self._rows[number] == row for number in left]):
            return 0, ("told", row)
        found = None
        for place in range(self._places):
            parts = parted(self._texts, left, place)
            if len(parts) > 1:
                many = 1 + max([self.best(part)[0] for _, part in parts])
                if found is None or many < found[0]:
                    found = (many, ("ask", place, tuple([(answer, self.best(part)[1]) for answer, part in parts])))
        return found


def settles_at_once(texts, rows, lot):
    """Whether any two texts with the same words at all these places want the same."""
    told = {}
    for text, row in zip(texts, rows):
        if told.setdefault(tuple([word_at(text, place) for place in lot]), row) != row:
            return False
    return True


def sources_of(road, page, style):
    """The sources of a page, if they are few and short."""
    sources = SourceTexts(road, page, style)
    if sources.count == 0:
        raise NoSource(page)
    if sources.endless or sources.count > MOST_TEXTS:
        raise TooMany("text")
    texts = tuple([sources[number] for number in range(sources.count)])
    if max([len(text) for text in texts]) > MOST_WORDS:
        raise TooMany("place")
    return texts


class Questions:
    """The least number of questions for a page, the plan, and the least lots of places that settle it at once."""

    def __init__(self, road, page, want, style):
        checked_page(page)
        check_want(want)
        meet(road.books[0].tongue, style)
        meet_want(want, style)
        self.texts = sources_of(road, page, style)
        rows = [wanted(want, text) for text in self.texts]
        self.count, self.plan = Planner(self.texts, rows).best(tuple(range(len(rows))))
        lots = lots_of(list(range(max([len(text) for text in self.texts]))))
        self.lots = least_of([lot for lot in lots if settles_at_once(self.texts, rows, lot)])

    def settle(self, text):
        """What the plan tells for a source, and the number of questions asked."""
        words = kept(text)
        if words not in self.texts:
            raise NoText(text)
        plan = self.plan
        asked = 0
        while plan[0] == "ask":
            answer = word_at(words, plan[1])
            plan = [behind for other, behind in plan[2] if other == answer][0]
            asked += 1
        return plan[1], asked


def is_telling(plan, row):
    """Whether a plan tells this row."""
    return len(plan) == 2 and plan[0] == "told" and is_row(plan[1]) and tuple(plan[1]) == row


def is_asking(plan):
    """Whether a plan asks a place, and has a row of pairs behind it."""
    if len(plan) != 3 or plan[0] != "ask" or not is_below(plan[1], MOST_PLACES) or not is_row(plan[2]):
        return False
    return all([is_row(pair) and len(pair) == 2 for pair in plan[2]])


def plans_behind(texts, left, plan):
    """The pairs of a plan behind a question, and the texts that are left; None if its answers are not just theirs."""
    parts = parted(texts, left, plan[1])
    if [pair[0] for pair in plan[2]] != [answer for answer, _ in parts]:
        return None
    return [(pair[1], part) for pair, (_, part) in zip(plan[2], parts)]


def judge_plan(texts, want, plan):
    """The greatest number of questions that a plan asks of some different texts, None if it does not settle them."""
    check_want(want)
    rows = [wanted(want, text) for text in texts]
    most = 0
    waiting = [(plan, tuple(range(len(rows))), 0)]
    # Whoever wrote it, a plan can be very deep: so it is gone along with a list.
    while len(waiting) > 0:
        here, left, asked = waiting.pop()
        if not is_row(here):
            return None
        if is_asking(here):
            behind = plans_behind(texts, left, here)
            if behind is None:
                return None
            waiting.extend([(further, part, asked + 1) for further, part in behind])
        elif not all([is_telling(here, rows[number]) for number in left]):
            return None
        most = max(most, asked)
    return most
