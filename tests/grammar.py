"""The lines of the document as patterns, and where lines leave them: a second way to find what BadLine tells.

A pattern is a tuple: ("none",), ("empty",), ("word", test), ("then", a, b), ("or", a, b) or ("many", a).
Words are taken one by one; behind each line comes the word None.
"""

import re

NONE = ("none",)
EMPTY = ("empty",)


def then(*parts):
    found = EMPTY
    for part in reversed(parts):
        part = lit(part)
        if part == NONE or found == NONE:
            found = NONE
        elif part == EMPTY:
            pass
        else:
            found = part if found == EMPTY else ("then", part, found)
    return found


def lit(part):
    if isinstance(part, str):
        return ("word", lambda word: word == part)
    return part


def either(*parts):
    found = NONE
    for part in reversed(parts):
        part = lit(part)
        if part != NONE:
            found = part if found == NONE else ("or", part, found)
    return found


def many(part):
    return ("many", lit(part))


def perhaps(part):
    return either(part, EMPTY)


def upto(part, least, most):
    return then(*[part] * least, *[perhaps(part)] * (most - least))


def ends(pattern):
    kind = pattern[0]
    if kind in ("empty", "many"):
        return True
    if kind == "then":
        return ends(pattern[1]) and ends(pattern[2])
    return kind == "or" and (ends(pattern[1]) or ends(pattern[2]))


def behind(pattern, word):
    kind = pattern[0]
    if kind == "word":
        return EMPTY if word is not None and pattern[1](word) else NONE
    if kind == "line":
        return EMPTY if word is None else NONE
    if kind == "or":
        return either(behind(pattern[1], word), behind(pattern[2], word))
    if kind == "many":
        return then(behind(pattern[1], word), pattern)
    if kind == "then":
        first = then(behind(pattern[1], word), pattern[2])
        return either(first, behind(pattern[2], word)) if ends(pattern[1]) else first
    return NONE


def told(expression):
    return ("word", lambda word: re.fullmatch(expression, word) is not None)


LINE = ("line",)
W = told("[a-z]{1,8}")
ITEM = told(r"\*?[a-z]{1,8}|_")
PATTERN_ITEM = told("[a-z]{1,8}|_")
PAIR = told("[a-z]{1,8}:[a-z]{1,8}")
PICKED = told("[a-z]{1,8}(:[12])?")
ROOM = told("[0-5]")

WAY = then("way", upto(ITEM, 0, 6), LINE)
SCOPE = either(then("in", W), then("behind", W), "plain", "quoted")
TERM = then("term", W, upto(PATTERN_ITEM, 1, 3), LINE, upto(WAY, 1, 3),
            perhaps(then("first", upto(ITEM, 0, 6), LINE)), perhaps(then("scope", SCOPE, LINE)),
            perhaps(then("turns", W, LINE)))
END = then("end", LINE)
BOOK = then("words", W, many(W), LINE, perhaps(then("headings", W, many(W), LINE)), perhaps(then("quote", W, LINE)),
            many(then("turn", W, many(PAIR), LINE)), many(TERM), END)
STYLE = then(many(then("room", many(then(W, ROOM)), LINE)), "ends", ROOM, many(ROOM), LINE)
READING = then("read", many(PICKED), LINE)
WORK = upto(READING, 1, 6)
ENTRY = either(then("add", LINE, TERM, END), then("drop", W, LINE), then("rise", W, LINE),
               then("ways", W, LINE, upto(WAY, 1, 3), END), then("first", W, LINE, perhaps(WAY), END),
               then("scope", W, either("work", SCOPE), LINE), then("say", W, W, LINE))
LOG = many(ENTRY)


def leaves(pattern, lines):
    """The line and the word at which lines leave a pattern, None if they do not."""
    for number, line in enumerate(lines):
        if not isinstance(line, str):
            return number, 0
        for place, word in enumerate(line.split(" ") + [None]):
            pattern = behind(pattern, word)
            if pattern == NONE:
                return number, place
    return None if ends(pattern) else (len(lines), 0)


WORDS = ["", "a", "b", "x", "cat", "_", "*a", "*", "A", "abcdefghi", "a:b", "a:a", "b:1", "b:3", "a:b:c", ":", "0", "1",
         "5", "6", "00", "01", "-1", "+1", "words", "headings", "quote", "turn", "term", "way", "first", "scope", "in",
         "behind", "plain", "quoted", "work", "turns", "end", "room", "ends", "read", "add", "drop", "rise", "ways",
         "say", "  "]


def spoilt(chance, lines):
    """The lines with something exchanged, put in, left out, cut off or too much."""
    lines = list(lines)
    deed = chance.randrange(12)
    at = chance.randrange(len(lines)) if lines else 0
    if deed == 0 or not lines:
        lines.insert(chance.randint(0, len(lines)), chance.choice(["", "end", None, 5, True, ("end",), "way a", "x"]))
    elif deed == 1:
        del lines[at]
    elif deed == 2:
        lines = lines[:at]
    elif deed == 3:
        lines[at] = chance.choice([None, 7, ["end"], b"end", True])
    elif deed == 4:
        lines.insert(at, lines[chance.randrange(len(lines))])
    elif isinstance(lines[at], str):
        words = lines[at].split(" ")
        place = chance.randrange(len(words))
        if deed <= 7:
            words[place] = chance.choice(WORDS)
        elif deed <= 9:
            words.insert(chance.randint(0, len(words)), chance.choice(WORDS))
        else:
            del words[place]
        lines[at] = " ".join(words)
    return lines
