"""The lines of styles."""

from keptacross.linereader import LineReader
from keptacross.styles import Style
from keptacross.words import is_word

NUMBERS = ("0", "1", "2", "3", "4", "5")


def write_style(style):
    """The lines of a style."""
    lines = []
    for doors in style.rooms:
        lines.append(" ".join(["room"] + [f"{word} {room}" for word, room in doors]))
    return (*lines, " ".join(["ends"] + [str(room) for room in style.ends]))


def is_room_text(text):
    """Whether a word of a line is the number of a room."""
    return text in NUMBERS


def read_room(reader):
    """Reads the line of a room: its pairs."""
    reader.take("room")
    doors = []
    while reader.place < len(reader.words):
        word = reader.one(is_word)
        doors.append((word, int(reader.one(is_room_text))))
    return tuple(doors)


def read_style(lines):
    """The style that is written in these lines."""
    reader = LineReader(lines)
    rooms = []
    while reader.head() == "room":
        rooms.append(read_room(reader))
    reader.take("ends")
    ends = [int(text) for text in reader.rest(is_room_text, 1)]
    reader.past()
    return Style(rooms, ends)
