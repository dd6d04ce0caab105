"""The errors of the package: a class for each kind of failure, all directly under ReadError."""


class ReadError(ValueError):
    """What all errors of the package are; never raised itself."""


class InvalidNumber(ReadError):
    """A number that is none, or that is not in its range."""

    def __init__(self, value):
        self.value = value


class InvalidWord(ReadError):
    """A word that is none, or that has another length."""

    def __init__(self, value):
        self.value = value


class InvalidWords(ReadError):
    """Words that are none, or of which one is none."""

    def __init__(self, value):
        self.value = value


class InvalidMatrix(ReadError):
    """A matrix that is none, or that has another size or rank."""

    def __init__(self, value):
        self.value = value


class InvalidSquare(ReadError):
    """A square that is none, or that has another size."""

    def __init__(self, value):
        self.value = value


class InvalidTable(ReadError):
    """A table that is none, or that has another size."""

    def __init__(self, value):
        self.value = value


class InvalidShare(ReadError):
    """A share that is none, or that is not in its range."""

    def __init__(self, value):
        self.value = value


class InvalidSystem(ReadError):
    """A system with a part that is none, at a place."""

    def __init__(self, part, place):
        self.part = part
        self.place = place


class InvalidClause(ReadError):
    """A clause, by its place, that is none."""

    def __init__(self, place):
        self.place = place


class InvalidGate(ReadError):
    """A gate, by its place, that is none."""

    def __init__(self, place):
        self.place = place


class InvalidTie(ReadError):
    """A tie, by its place, that is none."""

    def __init__(self, place):
        self.place = place


class InvalidTerm(ReadError):
    """A term, by its place, that is none."""

    def __init__(self, place):
        self.place = place


class InvalidPaper(ReadError):
    """A paper with a part that is none, at a place."""

    def __init__(self, part, place):
        self.part = part
        self.place = place


class InvalidTape(ReadError):
    """A tape that is none, or that has another length."""

    def __init__(self, value):
        self.value = value


class InvalidList(ReadError):
    """A list that is none."""

    def __init__(self, value):
        self.value = value


class InvalidText(ReadError):
    """A text that is none, from a place on."""

    def __init__(self, text, at):
        self.text = text
        self.at = at


class InvalidLine(ReadError):
    """A line that is none, from a place on."""

    def __init__(self, line, at):
        self.line = line
        self.at = at


class UnknownWord(ReadError):
    """A line's first word that nobody knows."""

    def __init__(self, word):
        self.word = word


class TooMany(ReadError):
    """More of something than can be."""

    def __init__(self, what):
        self.what = what


class Undefined(ReadError):
    """Something asked for that there is not."""

    def __init__(self, what):
        self.what = what


class NothingToUndo(ReadError):
    """Nothing that can be undone, or done again."""

    def __init__(self, word):
        self.word = word
