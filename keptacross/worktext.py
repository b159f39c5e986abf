"""The lines of readings and works."""

from keptacross.linereader import LineReader
from keptacross.words import is_word

MOST_CHAPTERS = 6


def write_reading(reading):
    """The line of a reading."""
    return " ".join(["read"] + [word if pick == 0 else f"{word}:{pick}" for word, pick in reading])


def write_work(chapters):
    """The lines of a work."""
    return tuple([write_reading(chapter) for chapter in chapters])


def is_pick_text(text):
    """Whether a word of a line is a word, perhaps with a pick above 0."""
    word, colon, pick = text.partition(":")
    return is_word(word) and (colon == "" or pick in ("1", "2"))


def pick_of(text):
    """The word and the pick that such a word of a line tells."""
    word, colon, pick = text.partition(":")
    return word, 0 if colon == "" else int(pick)


def read_chapter(reader):
    """Reads the line of a reading."""
    reader.take("read")
    return tuple([pick_of(text) for text in reader.rest(is_pick_text, 0)])


def read_reading(line):
    """The reading that is written in this line."""
    return read_chapter(LineReader((line,)))


def read_work(lines):
    """The work that is written in these lines."""
    reader = LineReader(lines)
    chapters = [read_chapter(reader)]
    while len(chapters) < MOST_CHAPTERS and reader.head() is not None:
        chapters.append(read_chapter(reader))
    reader.past()
    return tuple(chapters)
