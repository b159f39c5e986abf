"""The lines of logs, also of torn ones."""

from keptacross.booktext import line_of, read_parts, read_scope, read_ways, term_of, way_lines, write_term
from keptacross.errors import BadLine, BadTerm
from keptacross.linereader import LineReader
from keptacross.terms import is_item
from keptacross.words import is_word


def write_change(change):
    """The lines of a change."""
    kind = change[0]
    if kind == "add":
        return [kind, *write_term(change[1]), "end"]
    if kind == "ways":
        return [line_of(kind, (change[1],)), *way_lines(change[2]), "end"]
    if kind == "first":
        return [line_of(kind, (change[1],)), *way_lines([way for way in change[2:] if way is not None]), "end"]
    if kind == "scope":
        return [line_of(kind, (change[1], *change[2]))]
    return [line_of(kind, change[1:])]


def write_log(changes):
    """The lines of a tuple of changes."""
    return tuple([line for change in changes for line in write_change(change)])


def is_any_scope_word(text):
    """Whether a word of a line can begin a scope in a change."""
    return text in ("work", "in", "behind", "plain", "quoted")


def read_end(reader):
    """Reads the line that ends an entry of several lines."""
    reader.take("end")
    reader.shut()


def read_added(reader):
    """Reads the rest of an entry that adds a term: what the term is made of stands in its place."""
    reader.shut()
    parts = read_parts(reader)
    read_end(reader)
    return (parts,)


def read_name(reader):
    """Reads the rest of an entry with a name alone."""
    return reader.rest(is_word, 1, 1)


def read_new_ways(reader):
    """Reads the rest of an entry with the ways of a term."""
    name = reader.rest(is_word, 1, 1)[0]
    ways = read_ways(reader)
    read_end(reader)
    return name, ways


def read_new_first(reader):
    """Reads the rest of an entry with the first way of a term, None if no way stands there."""
    name = reader.rest(is_word, 1, 1)[0]
    way = None
    if reader.head() == "way":
        reader.take("way")
        way = reader.rest(is_item, 0, 6)
    read_end(reader)
    return name, way


def read_new_scope(reader):
    """Reads the rest of an entry with the scope of a term."""
    name = reader.one(is_word)
    return name, read_scope(reader, is_any_scope_word)


def read_said(reader):
    """Reads the rest of an entry with a word and the other one."""
    return reader.rest(is_word, 2, 2)


ENTRIES = {
    "add": read_added, "drop": read_name, "rise": read_name, "ways": read_new_ways,
    "first": read_new_first, "scope": read_new_scope, "say": read_said,
}


def read_entry(reader):
    """Reads the lines of a change, whose term is not made yet."""
    kind = reader.head()
    if kind not in ENTRIES:
        raise BadLine(reader.line + 1, 0)
    reader.take(kind)
    read_rest = ENTRIES[kind]
    return (kind, *read_rest(reader))


def change_of(entry):
    """The change that an entry tells; BadTerm if its term is none."""
    return ("add", term_of(entry[1])) if entry[0] == "add" else entry


def read_log(lines):
    """The changes that are written in these lines."""
    reader = LineReader(lines)
    entries = []
    while reader.head() is not None:
        entries.append(read_entry(reader))
    return tuple([change_of(entry) for entry in entries])


def next_change(reader):
    """The next change, None if there is none that can be read and made."""
    try:
        return None if reader.head() is None else change_of(read_entry(reader))
    except (BadLine, BadTerm):
        return None


def taken_up(lines):
    """The changes of the longest good beginning of any lines, and the number of its lines."""
    reader = LineReader(lines)
    changes = []
    good = 0
    change = next_change(reader)
    while change is not None:
        changes.append(change)
        good = reader.line + 1
        change = next_change(reader)
    return tuple(changes), good
