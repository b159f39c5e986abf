"""The errors of the program. Each keeps what it was made with, as it was passed."""


class AcrossError(ValueError):
    """What all errors of the program are."""


class BadMap(AcrossError):
    """The pairs are no word map."""

    def __init__(self, pairs):
        super().__init__(f"no word map: {pairs!r}")
        self.pairs = pairs


class BadTongue(AcrossError):
    """The named part of a tongue is none."""

    def __init__(self, word):
        super().__init__(f"no tongue, for its: {word!r}")
        self.word = word


class BadStyle(AcrossError):
    """The named part of a style is none."""

    def __init__(self, word):
        super().__init__(f"no style, for its: {word!r}")
        self.word = word


class BadTerm(AcrossError):
    """The named part of a term is none."""

    def __init__(self, word):
        super().__init__(f"no term, for its: {word!r}")
        self.word = word


class BadBook(AcrossError):
    """The named part of a book is none."""

    def __init__(self, word):
        super().__init__(f"no book, for its: {word!r}")
        self.word = word


class BadRoad(AcrossError):
    """The thing with this number is no book; -1: the row is no road."""

    def __init__(self, number):
        super().__init__(f"no road, at: {number!r}")
        self.number = number


class BadText(AcrossError):
    """The thing with this number is no word of the tongue; -1: no text."""

    def __init__(self, number):
        super().__init__(f"no text, at: {number!r}")
        self.number = number


class BadReading(AcrossError):
    """The thing with this number is no word with a pick; -1: no reading."""

    def __init__(self, number):
        super().__init__(f"no reading, at: {number!r}")
        self.number = number


class BadPage(AcrossError):
    """The thing with this number is no token; -1: no page."""

    def __init__(self, number):
        super().__init__(f"no page, at: {number!r}")
        self.number = number


class BadLine(AcrossError):
    """In this line, this word cannot stand where it stands."""

    def __init__(self, line, word):
        super().__init__(f"cannot be read: line {line!r}, word {word!r}")
        self.line = line
        self.word = word


class BadTurners(AcrossError):
    """The thing with this number is no turner; -1: no turners."""

    def __init__(self, number):
        super().__init__(f"no turners, at: {number!r}")
        self.number = number


class BadRow(AcrossError):
    """The thing with this number cannot stand in the row; -1: no row."""

    def __init__(self, number):
        super().__init__(f"no row, at: {number!r}")
        self.number = number


class BadRules(AcrossError):
    """The thing with this number is no barred row; -1: no rules."""

    def __init__(self, number):
        super().__init__(f"no rules, at: {number!r}")
        self.number = number


class BadSight(AcrossError):
    """A hand cannot have this sight."""

    def __init__(self, sight):
        super().__init__(f"no sight: {sight!r}")
        self.sight = sight


class BadLot(AcrossError):
    """The thing is no lot of the kind that is asked for."""

    def __init__(self, lot):
        super().__init__(f"no lot: {lot!r}")
        self.lot = lot


class BadWant(AcrossError):
    """The thing is neither a lot of words nor a road."""

    def __init__(self, want):
        super().__init__(f"no want: {want!r}")
        self.want = want


class BadWeb(AcrossError):
    """The named part of a web is none."""

    def __init__(self, word):
        super().__init__(f"no web, for its: {word!r}")
        self.word = word


class BadJourney(AcrossError):
    """The thing with this number leads nowhere; -1: no journey."""

    def __init__(self, number):
        super().__init__(f"no journey, at: {number!r}")
        self.number = number


class BadChange(AcrossError):
    """The thing is no change of a book."""

    def __init__(self, change):
        super().__init__(f"no change: {change!r}")
        self.change = change


class BadMenu(AcrossError):
    """The thing with this number is no change of a menu; -1: no menu."""

    def __init__(self, number):
        super().__init__(f"no menu, at: {number!r}")
        self.number = number


class BadWork(AcrossError):
    """The chapter with this number is no reading; -1: no work."""

    def __init__(self, number):
        super().__init__(f"no work, at: {number!r}")
        self.number = number


class BadLinks(AcrossError):
    """The named part of what readers go by is none."""

    def __init__(self, word):
        super().__init__(f"no way to read, for its: {word!r}")
        self.word = word


class NoTerm(AcrossError):
    """The book has no term of this name."""

    def __init__(self, name):
        super().__init__(f"no term is called: {name!r}")
        self.name = name


class NoPlace(AcrossError):
    """There is no such place."""

    def __init__(self, place):
        super().__init__(f"no such place: {place!r}")
        self.place = place


class NoState(AcrossError):
    """There is no state with this number."""

    def __init__(self, number):
        super().__init__(f"no state has the number: {number!r}")
        self.number = number


class NoSource(AcrossError):
    """No reading of the style has this page."""

    def __init__(self, page):
        super().__init__(f"no source for the page: {page!r}")
        self.page = page


class NoText(AcrossError):
    """There is no such text."""

    def __init__(self, number):
        super().__init__(f"no such text: {number!r}")
        self.number = number


class NoHouse(AcrossError):
    """The web has no house of this name."""

    def __init__(self, name):
        super().__init__(f"no house is called: {name!r}")
        self.name = name


class NoWord(AcrossError):
    """The house does not have this word."""

    def __init__(self, word):
        super().__init__(f"no such word: {word!r}")
        self.word = word


class NoBook(AcrossError):
    """There is no book with this number."""

    def __init__(self, number):
        super().__init__(f"no book has the number: {number!r}")
        self.number = number


class Foreign(AcrossError):
    """This word of the style is none of the tongue."""

    def __init__(self, word):
        super().__init__(f"not in the tongue: {word!r}")
        self.word = word


class Unlike(AcrossError):
    """These parts of both are not alike."""

    def __init__(self, word):
        super().__init__(f"not alike in their: {word!r}")
        self.word = word


class Unsettled(AcrossError):
    """Unlike things are wanted of the sources of this page."""

    def __init__(self, page):
        super().__init__(f"the page does not settle it: {page!r}")
        self.page = page


class TooMany(AcrossError):
    """More of these can come than are gone through."""

    def __init__(self, word):
        super().__init__(f"too many: the: {word!r}")
        self.word = word
