"""Rules for pages: rows of one or two tokens that are barred."""

from keptacross.errors import BadRules
from keptacross.judging import are_tokens
from keptacross.rows import is_row, kept

MOST_ROWS = 6


def checked_rows(rows):
    """Barred rows, as tuples; BadRules if they are none."""
    if not is_row(rows) or len(rows) > MOST_ROWS:
        raise BadRules(-1)
    found = []
    for number, row in enumerate(rows):
        if not are_tokens(row) or not 1 <= len(row) <= 2:
            raise BadRules(number)
        if number > 0 and kept(row) <= found[-1]:
            raise BadRules(number)
        found.append(kept(row))
    return tuple(found)


def stands_in(row, longer):
    """Whether a row stands in another one, one token directly behind the other."""
    return any([longer[place:place + len(row)] == row for place in range(len(longer))])


class Rules:
    """At most 6 barred rows of 1 or 2 tokens, ascending."""

    def __init__(self, rows):
        self.rows = checked_rows(rows)

    def __len__(self):
        return len(self.rows)

    def __iter__(self):
        return iter(self.rows)

    def __eq__(self, other):
        return isinstance(other, Rules) and self.rows == other.rows

    def __add__(self, other):
        return Rules(sorted(set(self.rows + other.rows)))

    def broken(self, page):
        """The first place of a page that breaks the rules, None if there is none."""
        tokens = kept(page)
        for place in range(len(tokens)):
            if tokens[place:place + 1] in self.rows or tokens[place:place + 2] in self.rows:
                return place
        return None

    def covers(self, other):
        """Whether the other rules are at most as strict as these."""
        return all([any([stands_in(row, barred) for row in self.rows]) for barred in other.rows])

    def breaks(self, last, said):
        """Whether a barred row ends in what is said behind the last token, the empty string if there is none."""
        if len(self.rows) == 0:
            return False
        for token in said:
            if (token,) in self.rows or (last, token) in self.rows:
                return True
            last = token
        return False
