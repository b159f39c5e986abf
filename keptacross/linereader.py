"""Reading lines, word by word, up to the first word that cannot stand where it stands."""

from keptacross.errors import BadLine


class LineReader:
    """Goes along lines; each method raises BadLine where they cannot be gone along."""

    def __init__(self, lines):
        self.lines = tuple(lines)
        self.line = -1
        self.words = ()
        self.place = 0

    def head(self):
        """The first word of the line that comes, None behind the last line."""
        coming = self.line + 1
        if coming == len(self.lines):
            return None
        if not isinstance(self.lines[coming], str):
            raise BadLine(coming, 0)
        return self.lines[coming].split(" ")[0]

    def take(self, name):
        """Goes on to the next line, which has to begin with this name."""
        if self.head() != name:
            raise BadLine(self.line + 1, 0)
        self.line += 1
        self.words = self.lines[self.line].split(" ")
        self.place = 1

    def one(self, good):
        """The next word of the line, which has to be good."""
        if self.place == len(self.words) or not good(self.words[self.place]):
            raise BadLine(self.line, self.place)
        self.place += 1
        return self.words[self.place - 1]

    def rest(self, good, least, most=None):
        """The rest of the line: good words, at least and at most so many."""
        found = []
        while self.place < len(self.words) and len(found) != most:
            found.append(self.one(good))
        if len(found) < least:
            raise BadLine(self.line, self.place)
        self.shut()
        return tuple(found)

    def shut(self):
        """The line has to be at its end."""
        if self.place < len(self.words):
            raise BadLine(self.line, self.place)

    def past(self):
        """The lines have to be at their end."""
        if self.head() is not None:
            raise BadLine(self.line + 1, 0)
