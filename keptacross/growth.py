"""How long pages grow: the greatest number of tokens for each word, in the long run, and what shows it."""

from math import gcd

from keptacross.judging import is_tuple_of
from keptacross.outlooks import Outlook
from keptacross.rows import is_number


def longest_steps(outlook):
    """For each state, and each state to which it leads, the first of the steps there that say most."""
    found = []
    for number in range(len(outlook)):
        best = {}
        for word, pick, said, behind in outlook.follow(number):
            if behind not in best or len(said) > best[behind][0]:
                best[behind] = (len(said), (word, pick))
        found.append([(tokens, label, behind) for behind, (tokens, label) in best.items()])
    return found


def most_said(steps):
    """For 0 words, 1, and so on, up to as many as there are states: the most that is said so far in each state.

    None stands for a state to which no row of so many words leads.
    """
    rows = [[0] + [None] * (len(steps) - 1)]
    for _ in steps:
        row = [None] * len(steps)
        for so_far, ahead in zip(list(rows[-1]), steps):
            if so_far is None:
                continue
            for tokens, _, behind in ahead:
                if row[behind] is None or so_far + tokens > row[behind]:
                    row[behind] = so_far + tokens
        rows.append(row)
    return rows


def least_gain(rows, number):
    """Of what is said at most on the last words that lead to a state, for each word: the least, as a fraction."""
    most = len(rows) - 1
    gains = [(rows[most][number] - rows[words][number], most - words)
             for words in range(most) if rows[words][number] is not None]
    best = gains[0]
    for gain in gains:
        if gain[0] * best[1] < best[0] * gain[1]:
            best = gain
    return best


def rate_of(steps):
    """The rate, not in lowest terms; None if no state can be come to again.

    As many words as there are states go round some ring. What they say at most, less what fewer words say at most,
    for each word that is left: its least over the fewer words, and the greatest of these over the states, is the rate.
    """
    rows = most_said(steps)
    best = None
    for number, so_far in enumerate(rows[-1]):
        if so_far is not None:
            gain = least_gain(rows, number)
            if best is None or gain[0] * best[1] > best[0] * gain[1]:
                best = gain
    return best


def heights_of(steps, rate):
    """The greatest value of each state over all readings that lead to it."""
    heights = [0] + [None] * (len(steps) - 1)
    waiting = [0]
    while len(waiting) > 0:
        raised = {}
        for number in waiting:
            for tokens, _, behind in steps[number]:
                height = heights[number] + rate[1] * tokens - rate[0]
                if heights[behind] is None or height > heights[behind]:
                    heights[behind] = height
                    raised[behind] = True
        waiting = list(raised)
    return heights


def tight_steps(steps, rate, heights):
    """Of each state the steps that lead just as high as the state behind them is."""
    return [[(label, behind) for tokens, label, behind in ahead
             if heights[behind] == heights[number] + rate[1] * tokens - rate[0]]
            for number, ahead in enumerate(steps)]


def ring_in(tight):
    """A state and a row of labels that leads from it to itself by these steps.

    States from which no such step leads are taken away, again and again; on what is left one can go on and on.
    """
    left = {number: True for number in range(len(tight))}
    gone = {number: True for number in left if len(tight[number]) == 0}
    while len(gone) > 0:
        left = {number: True for number in left if number not in gone}
        gone = {number: True for number in left if not any([behind in left for _, behind in tight[number]])}
    here = list(left)[0]
    places = {}
    labels = []
    while here not in places:
        places[here] = len(labels)
        ahead = [step for step in tight[here] if step[1] in left]
        labels.append(ahead[0][0])
        here = ahead[0][1]
    return here, tuple(labels[places[here]:])


def peak_of(outlook, rate, heights):
    """The greatest value of all readings of the style."""
    values = []
    for number, height in enumerate(heights):
        ending = outlook.ending(number)
        if ending is not None:
            values.append(height + rate[1] * len(ending))
    return max(values)


class Growth:
    """The rate at which pages grow, the heights and the ring that show it, and the peak."""

    def __init__(self, road, style):
        outlook = Outlook(road, style)
        steps = longest_steps(outlook)
        gain = rate_of(steps)
        tokens, words = (0, 1) if gain is None else gain
        shared = gcd(tokens, words)
        self.rate = (tokens // shared, words // shared)
        self.heights = tuple(heights_of(steps, self.rate))
        self.peak = peak_of(outlook, self.rate, self.heights)
        self.ring = None if gain is None else ring_in(tight_steps(steps, self.rate, self.heights))

    def __eq__(self, other):
        return (isinstance(other, Growth) and self.rate == other.rate
                and self.heights == other.heights and self.peak == other.peak)


def judge_heights(road, style, rate, heights):
    """None if heights show the rate from above, otherwise the number of the first state that bars them, or -1."""
    outlook = Outlook(road, style)
    if not is_tuple_of(heights, len(outlook)) or not all([is_number(height) for height in heights]) or heights[0] < 0:
        return -1
    for number, height in enumerate(heights):
        for _, _, said, behind in outlook.follow(number):
            if heights[behind] < height + rate[1] * len(said) - rate[0]:
                return number
    return None
