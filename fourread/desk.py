"""A desk: a system and a paper that are changed and asked about line by line."""

from fourread.basics import LONGEST_WORD, number_read
from fourread.errors import (
    InvalidLine, InvalidPaper, InvalidSquare, InvalidSystem, InvalidWord, NothingToUndo, UnknownWord,
)
from fourread.exact import refused_by_kind, refused_share
from fourread.making import fixed_system
from fourread.matrices import is_any_matrix
from fourread.papers import SumsPaper, paper_of
from fourread.readoff import solution_read
from fourread.systems import System, in_one_alone, row_added
from fourread.systemtexts import write_system
from fourread.throws import passes

LARGEST_INTEGER = 99
LONGEST_TAPE = 400


def bits_read(text, most):
    """The tuple of at most so many bits that the text writes, or None."""
    if not 1 <= len(text) <= most or not all([sign in ("0", "1") for sign in text]):
        return None
    return tuple([int(sign) for sign in text])


def integer_read(text):
    """The integer that the text writes, or None."""
    return number_read(text, LARGEST_INTEGER)


def word_read(text):
    """The word that the text writes, or None."""
    return bits_read(text, LONGEST_WORD)


def square_read(text):
    """The square that the text writes, or None."""
    rows = tuple([word_read(row) for row in text.split(",")])
    return rows if is_any_matrix(rows) else None


def tape_read(text):
    """The tape that the text writes, or None."""
    return bits_read(text, LONGEST_TAPE)


def word_text(word):
    """The text of a solution, or of None."""
    return "none" if word is None else "".join([str(bit) for bit in word])


def share_text(share):
    """The text of a share."""
    return f"{share.over}/{share.under}"


def system_text(system):
    """The text of a system in one line."""
    return write_system(system).replace("\n", ";")


def with_rows_added(system, paper, i, j):
    """What add makes of a system and a paper."""
    return row_added(system, i, j), paper


def with_bit_fixed(system, _, place, bit):
    """What fix makes of a system."""
    fixed = fixed_system(system, place, bit)
    return fixed, paper_of((0,) * fixed.n)


def with_paper(system, _, word):
    """What paper makes of a system."""
    if len(word) != system.n:
        raise InvalidPaper("size", 0)
    return system, paper_of(word)


def with_word_changed(system, paper, word):
    """What change makes of a system and a paper."""
    if len(word) != system.n:
        raise InvalidWord(word)
    words = in_one_alone(paper.words, (word,))
    return system, SumsPaper(paper.word, paper.square, words=words, squares=paper.squares)


def with_square_changed(system, paper, square):
    """What switch makes of a system and a paper."""
    if len(square) != system.n:
        raise InvalidSquare(square)
    squares = in_one_alone(paper.squares, (square,))
    return system, SumsPaper(paper.word, paper.square, words=paper.words, squares=squares)


def count_told(system, _):
    """How many solutions there are."""
    return str(len(system.solutions()))


def first_told(system, _):
    """The first solution."""
    solutions = system.solutions()
    return word_text(solutions[0] if solutions else None)


def refused_told(system, paper):
    """The share of throws that the paper does not pass."""
    return share_text(refused_share(system, paper))


def kinds_told(system, paper):
    """The same by kinds."""
    return ",".join([share_text(share) for share in refused_by_kind(system, paper)])


def read_told(system, paper):
    """The solution that is read off the paper."""
    return word_text(solution_read(system, paper))


def throw_told(system, paper, kind, tape):
    """Whether the paper passes a throw."""
    return "passes" if passes(system, paper, kind, tape) else "refused"


DEEDS = {
    "add": with_rows_added, "fix": with_bit_fixed, "paper": with_paper, "change": with_word_changed,
    "switch": with_square_changed,
}

QUESTIONS = {
    "count": count_told, "first": first_told, "refused": refused_told, "kinds": kinds_told, "read": read_told,
    "throw": throw_told,
}

# How the words behind the first one of a line are read.
FORMS = {
    "add": (integer_read, integer_read), "fix": (integer_read, integer_read), "paper": (word_read,),
    "change": (word_read,), "switch": (square_read,), "count": (), "first": (), "refused": (), "kinds": (), "read": (),
    "throw": (integer_read, tape_read), "undo": (), "redo": (),
}

ANSWERED_BY_SYSTEM = ("add", "fix")


def line_read(line):
    """The first word of a line, and the list of the values that the others write."""
    first, *texts = line.split(" ")
    if first not in FORMS:
        raise UnknownWord(first)
    readers = list(FORMS[first])
    values = []
    at = len(first) + 1
    for text in texts:
        if len(values) == len(readers):
            raise InvalidLine(line, at)
        reader = readers[len(values)]
        value = reader(text)
        if value is None:
            raise InvalidLine(line, at)
        values.append(value)
        at = at + len(text) + 1
    if len(values) < len(readers):
        raise InvalidLine(line, len(line))
    return first, values


class Desk:
    """A system, a paper, and the deeds that led to them."""

    def __init__(self, system):
        if not isinstance(system, System):
            raise InvalidSystem("system", 0)
        self.system = system
        self.paper = paper_of((0,) * system.n)
        self.lines = ()
        self._before = []
        self._undone = []

    def run(self, line):
        """Do one line, and answer a text."""
        word, values = line_read(line)
        if word in DEEDS:
            return self._do(line, word, values)
        if word in QUESTIONS:
            question = QUESTIONS[word]
            return question(self.system, self.paper, *values)
        if word == "undo":
            return self._go(word, self._before, self._undone)
        return self._go(word, self._undone, self._before)

    def _state(self):
        """What a deed changes."""
        return self.system, self.paper, self.lines

    def _do(self, line, word, values):
        """Do a deed, and answer."""
        deed = DEEDS[word]
        system, paper = deed(self.system, self.paper, *values)
        answer = system_text(system) if word in ANSWERED_BY_SYSTEM else refused_told(system, paper)
        self._before.append(self._state())
        self._undone = []
        self.system, self.paper, self.lines = system, paper, self.lines + (line,)
        return answer

    def _go(self, word, states, others):
        """Take the last one of these states, keep the present one among the others, and answer."""
        if len(states) == 0:
            raise NothingToUndo(word)
        others.append(self._state())
        self.system, self.paper, self.lines = states.pop()
        return system_text(self.system)


def replayed_desk(system, lines):
    """A desk for the system on which the lines were run."""
    desk = Desk(system)
    for line in lines:
        desk.run(line)
    return desk
