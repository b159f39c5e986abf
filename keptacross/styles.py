"""Styles: which texts are sent."""

from keptacross.errors import BadStyle, Foreign, NoPlace
from keptacross.rows import ascends, is_below, is_lot, is_row, kept
from keptacross.words import is_word


def is_door(thing, many):
    """Whether the thing is a pair of a word and the number of one of so many rooms."""
    return is_row(thing) and len(thing) == 2 and is_word(thing[0]) and is_below(thing[1], many)


def is_room(thing, many):
    """Whether the thing is a room of a style with so many rooms."""
    if not is_row(thing) or not all([is_door(door, many) for door in thing]):
        return False
    return ascends([door[0] for door in thing])


def are_rooms(thing):
    """Whether the thing is what the rooms of a style are."""
    if not is_row(thing) or not 1 <= len(thing) <= 6:
        return False
    return all([is_room(room, len(thing)) for room in thing])


def rooms_to_an_end(rooms, ends):
    """The numbers of the rooms from which an end can be reached, in no or more steps."""
    live = list(ends)
    # Each round finds at least one room, so there are at most as many rounds as rooms.
    for _ in rooms:
        live = [room for room, doors in enumerate(rooms)
                if room in live or any([leads in live for _, leads in doors])]
    return live


def rooms_from(start, rooms):
    """The numbers of the rooms to which these rooms lead from a start, in no or more steps."""
    found = [start]
    for _ in rooms:
        ahead = [leads for room in found for _, leads in rooms[room]]
        found = [room for room in range(len(rooms)) if room in found or room in ahead]
    return found


def meet(tongue, style):
    """Raises Foreign with the first word of the style that is none of the tongue."""
    for word in style.vocabulary:
        if word not in tongue:
            raise Foreign(word)


class Style:
    """A style has rooms; in each of them words may come next, which lead to rooms; some are ends."""

    def __init__(self, rooms, ends):
        if not are_rooms(rooms):
            raise BadStyle("rooms")
        if not is_lot(ends, lambda end: is_below(end, len(rooms))):
            raise BadStyle("ends")
        live = rooms_to_an_end(rooms, ends)
        if 0 not in live:
            raise BadStyle("texts")
        self.rooms = kept(rooms)
        self.ends = kept(ends)
        self._let = tuple([tuple([door for door in doors if door[1] in live]) for doors in self.rooms])
        words = [word for room in rooms_from(0, self._let) for word, _ in self._let[room]]
        self._vocabulary = tuple(sorted(set(words)))

    def __len__(self):
        return len(self.rooms)

    def __iter__(self):
        return iter(self.rooms)

    def __eq__(self, other):
        return isinstance(other, Style) and self.rooms == other.rooms and self.ends == other.ends

    def let(self, room):
        """The pairs of a room whose words lead on to an end."""
        if not is_below(room, len(self.rooms)):
            raise NoPlace(room)
        return self._let[room]

    def is_end(self, room):
        """Whether a text can end in a room."""
        if not is_below(room, len(self.rooms)):
            raise NoPlace(room)
        return room in self.ends

    def reads(self, text):
        """Whether a tuple of words is a text of the style."""
        if not is_row(text):
            return False
        room = 0
        for word in text:
            ahead = [leads for other, leads in self._let[room] if other == word]
            if len(ahead) == 0:
                return False
            room = ahead[0]
        return room in self.ends

    @property
    def vocabulary(self):
        """The words that stand in its texts, ascending."""
        return self._vocabulary

    @classmethod
    def free(cls, words):
        """The style with one room, an end, in which each of these words leads to this room."""
        # A string is no row of words, although it could be gone through like one.
        room = [(word, 0) for word in words] if is_row(words) else words
        return cls((room,), (0,))
