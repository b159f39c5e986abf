"""The sources of a page: counted or endless, and numbered in their order.

Sources are told apart from readings by lots: of all live nodes to which readings of the same text lead. Lots are
numbered; for each of them are told its steps (a word, and the number of the lot behind it), and whether it can end.
"""

from keptacross.errors import NoText
from keptacross.pagewalk import PageWalk, checked_page
from keptacross.rows import is_number, is_row
from keptacross.search import explored
from keptacross.styles import meet
from keptacross.wants import Words

MOST_LOTS = 600


def lots_of_nodes(walk):
    """The steps of all lots of live nodes, and whether they can end."""
    # One lot without steps stands for a page without sources.
    if len(walk.nodes) == 0:
        return [()], [False]
    ahead = [sorted(set([(word, behind) for word, _, _, behind in follow])) for follow in walk.follows]

    def steps_from(lot):
        found = {}
        for number in lot:
            for word, behind in ahead[number]:
                found.setdefault(word, {})[behind] = True
        return [(told, tuple(sorted(found[told]))) for told in sorted(found)]

    numbers, follows, _ = explored([(0,)], steps_from, MOST_LOTS, "lot")
    return follows, [any([walk.ends[number] for number in lot]) for lot in numbers]


def in_order(follows):
    """The numbers of lots, each ahead of those to which it leads; None if some lot can be come to again."""
    left = [0] * len(follows)
    for follow in follows:
        for _, behind in follow:
            left[behind] += 1
    found = [number for number, many in enumerate(left) if many == 0]
    at = 0
    while at < len(found):
        here = found[at]
        for _, behind in follows[here]:
            left[behind] -= 1
            if left[behind] == 0:
                found.append(behind)
        at += 1
    return found if len(found) == len(follows) else None


def texts_counted(follows, ends):
    """The number of the texts that lead from the first lot to an end, None if they are endless."""
    order = in_order(follows)
    if order is None:
        return None
    many = [0] * len(follows)
    many[0] = 1
    for number in order:
        for _, behind in follows[number]:
            many[behind] = many[behind] + many[number]
    return sum([texts for texts, end in zip(many, ends) if end])


def level_behind(follows, level):
    """To how many texts with one word more each lot belongs, by how many texts lead to the lots so far."""
    found = {}
    for number in level:
        for _, behind in follows[number]:
            found[behind] = found.get(behind, 0) + level[number]
    return found


def levels_to(follows, ends, n):
    """How many texts with 0, 1 and so on words lead to each lot, up to the length of the source with the number n.

    Told besides is its number among the sources of its length. None, if there is no such source.
    """
    levels = [{0: 1}]
    left = n
    while len(levels[-1]) > 0:
        level = levels[-1]
        here = sum([level[number] for number in level if ends[number]])
        if left < here:
            return levels, left
        left = left - here
        levels.append(level_behind(follows, level))
    return None


def ways_on(follows, ends, levels):
    """For the lots of each level, how many ways lead on to an end in the last level."""
    found = [{number: 1 for number in levels[-1] if ends[number]}]
    for level in levels[-2::-1]:
        ahead = found[-1]
        found.append({number: sum([ahead.get(behind, 0) for _, behind in follows[number]]) for number in level})
    return found[::-1]


def step_to(follow, ways, left):
    """The step that leads to the text with this number: its word, the lot behind it, and the number from there."""
    for word, behind in follow:
        many = ways.get(behind, 0)
        if left < many:
            return word, behind, left
        left = left - many
    return None


def text_numbered(follows, ends, n):
    """The source with the number n, None if there is none."""
    found = levels_to(follows, ends, n)
    if found is None:
        return None
    levels, left = found
    text = []
    number = 0
    for ways in ways_on(follows, ends, levels)[1:]:
        word, number, left = step_to(follows[number], ways, left)
        text.append(word)
    return tuple(text)


def ends_away(follows, ends, length):
    """For each number of words up to the length, for each lot, whether it can end behind just so many words."""
    rows = [ends]
    for _ in range(length):
        ahead = rows[-1]
        rows.append([any([ahead[behind] for _, behind in follow]) for follow in follows])
    return rows


def least_on(follows, away, number, many):
    """The least row of just so many words that leads from a lot to an end; there has to be one."""
    words = []
    for left in range(many - 1, -1, -1):
        word, number = [step for step in follows[number] if away[left][step[1]]][0]
        words.append(word)
    return tuple(words)


def text_behind(follows, away, text):
    """The next source with as many words as this one, None if there is none."""
    numbers = [0]
    for word in text:
        numbers.append([behind for other, behind in follows[numbers[-1]] if other == word][0])
    for place in range(len(text) - 1, -1, -1):
        left = len(text) - place - 1
        higher = [step for step in follows[numbers[place]] if step[0] > text[place] and away[left][step[1]]]
        if len(higher) > 0:
            word, number = higher[0]
            return (*text[:place], word, *least_on(follows, away, number, left))
    return None


class SourceTexts:
    """The sources of a page, numbered in their order."""

    def __init__(self, road, page, style):
        tokens = checked_page(page)
        meet(road.books[0].tongue, style)
        self._follows, self._ends = lots_of_nodes(PageWalk(road, tokens, Words(()), style))
        self.count = texts_counted(self._follows, self._ends)
        self.endless = self.count is None

    def __iter__(self):
        raise TypeError("sources may be endless: take them by their numbers, or up to a length")

    def __getitem__(self, n):
        text = text_numbered(self._follows, self._ends, n) if is_number(n) and n >= 0 else None
        if text is None:
            raise NoText(n)
        return text

    def __contains__(self, text):
        if not is_row(text):
            return False
        number = 0
        for word in text:
            ahead = [behind for other, behind in self._follows[number] if other == word]
            if len(ahead) == 0:
                return False
            number = ahead[0]
        return self._ends[number]

    def upto(self, length):
        """The sources with at most so many words, in order, each as soon as it is found."""
        away = ends_away(self._follows, self._ends, length)
        for many in range(length + 1):
            text = least_on(self._follows, away, 0, many) if away[many][0] else None
            while text is not None:
                yield text
                text = text_behind(self._follows, away, text)
