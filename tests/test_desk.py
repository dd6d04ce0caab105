"""[27] and [28]: the module desk."""

import inspect
import unittest

from fourread import desk as desk_module
from fourread.desk import Desk, replayed_desk
from fourread.errors import (
    InvalidLine, InvalidNumber, InvalidPaper, InvalidSquare, InvalidSystem, InvalidTape, InvalidWord, NothingToUndo,
    ReadError, TooMany, Undefined, UnknownWord,
)
from fourread.exact import refused_by_kind, refused_share
from fourread.making import fixed_system
from fourread.papers import SumsPaper, paper_of
from fourread.readoff import solution_read
from fourread.shares import Share
from fourread.systems import System, row_added
from fourread.systemtexts import write_system
from fourread.tables import Table
from fourread.throws import Judge, passes
from tests.support import (
    Case, OBJECTS, dice_for, length_of_tapes, nested, outer, random_matrix, random_system, random_word, solutions_of,
)

NO_SOLUTION = System(2, [((), (0,), 1), ((), (1,), 1), (((0, 1),), (), 0)])

THREE = System(3, [(((0, 1),), (2,), 1), ((), (0, 2), 0), (((1, 2),), (0,), 1)])

TEXT_OF_THREE = "system 3;0*1+2=1;0+2=0;1*2+0=1"

DEEDS = ("add", "fix", "paper", "change", "switch")


def bits_text(bits):
    return "".join(map(str, bits))


def square_text(square):
    return ",".join(map(bits_text, square))


def share_text(share):
    return f"{share.over}/{share.under}"


def bits_of(text):
    return tuple(map(int, text))


def exchanged(values, value):
    """The values with this one taken out if it stands among them, else put in."""
    return tuple(sorted({*values} ^ {value}))


class Model:
    """What a desk should be and answer, by the document's words, for lines that raise nothing."""

    def __init__(self, system):
        self.state = system, paper_of((0,) * system.n), ()
        self.past = []
        self.future = []

    def deed(self, line, word, rest):
        system, paper, lines = self.state
        if word == "add":
            system = row_added(system, int(rest[0]), int(rest[1]))
        if word == "fix":
            system = fixed_system(system, int(rest[0]), int(rest[1]))
            paper = SumsPaper((0,) * system.n, ((0,) * system.n,) * system.n)
        if word == "paper":
            paper = SumsPaper(bits_of(rest[0]), outer(bits_of(rest[0]), bits_of(rest[0])))
        if word == "change":
            words = exchanged(paper.words, bits_of(rest[0]))
            paper = SumsPaper(paper.word, paper.square, words=words, squares=paper.squares)
        if word == "switch":
            squares = exchanged(paper.squares, tuple(map(bits_of, rest[0].split(","))))
            paper = SumsPaper(paper.word, paper.square, words=paper.words, squares=squares)
        self.past, self.future = self.past + [self.state], []
        self.state = system, paper, lines + (line,)
        return self.text() if word in ("add", "fix") else share_text(refused_share(system, paper))

    def text(self):
        return ";".join(write_system(self.state[0]).split("\n"))

    def question(self, word, rest):
        system, paper, _ = self.state
        solutions = solutions_of(system.n, system.equations)
        found = solution_read(system, paper) if word == "read" else None
        return {
            "count": lambda: str(len(solutions)),
            "first": lambda: bits_text(solutions[0]) if solutions else "none",
            "refused": lambda: share_text(refused_share(system, paper)),
            "kinds": lambda: ",".join(map(share_text, refused_by_kind(system, paper))),
            "read": lambda: bits_text(found) if found else "none",
            "throw": lambda: "passes" if passes(system, paper, int(rest[0]), bits_of(rest[1])) else "refused",
        }[word]()

    def run(self, line):
        word, *rest = line.split(" ")
        if word in DEEDS:
            return self.deed(line, word, rest)
        if word == "undo":
            self.future, self.state, self.past = self.future + [self.state], self.past[-1], self.past[:-1]
            return self.text()
        if word == "redo":
            self.past, self.state, self.future = self.past + [self.state], self.future[-1], self.future[:-1]
            return self.text()
        return self.question(word, rest)


def right_line(dice, model):
    """A line that the model can run."""
    system, paper, _ = model.state
    n, many = system.n, len(system)
    choices = ["count", "first", "refused", "kinds"] + ["read"] * (n < 11)
    choices = choices + ["undo"] * 4 * bool(model.past) + ["redo"] * 4 * bool(model.future)
    choices.append("paper " + bits_text(random_word(dice, n)))
    choices.append("change " + bits_text(dice.choice([random_word(dice, n), *paper.words])))
    choices.append("switch " + square_text(dice.choice([random_matrix(dice, n), *paper.squares])))
    kind = dice.randrange(7)
    choices.append(f"throw {kind} " + bits_text((0,) + random_word(dice, length_of_tapes(n, many, kind) - 1)))
    if n > 1 and dice.randrange(4) == 0:
        choices.append(f"fix {dice.randrange(n)} {dice.randrange(2)}")
    if many > 1:
        choices.append("add {} {}".format(*dice.sample(range(many), 2)))
    return dice.choice(choices)


def wrong_lines(n, many):
    """Lines that raise on any desk with so many unknowns and equations, each in a way of its own."""
    return [
        "", " ", "what", "count ", "count 1", "add 0", "add 0 x", "add 0 0", f"add {many} 0", f"fix {n} 0", "fix 0 2",
        "paper", "paper " + "0" * (n % 12 + 1), "change " + "1" * (n % 12 + 1), "switch " + "1" * (n + 1), "switch",
        "switch " + square_text(((0,) * (n % 12 + 1),) * (n % 12 + 1)), "throw 7 0", "throw 0 1", "throw 0 2",
        "undo 1", "redo ", "UNDO", "redo redo",
    ]


def state_of(desk):
    paper = desk.paper
    return (
        desk.system.n, desk.system.equations, paper.word, paper.square, paper.words, paper.squares, desk.lines,
    )


class DeskCase(Case):
    def assert_state(self, desk, model):
        self.assertIs(type(desk.system), System)
        self.assertIs(type(desk.paper), SumsPaper)
        system, paper, lines = model.state
        wanted = system.n, system.equations, paper.word, paper.square, paper.words, paper.squares, lines
        self.assert_exactly(state_of(desk), wanted)

    def assert_refused(self, desk, line, kind, attributes):
        """The line raises just this error and leaves what can be seen of the desk."""
        before = state_of(desk)
        with self.assertRaises(ReadError) as caught:
            desk.run(line)
        self.assertIs(type(caught.exception), kind, line)
        for name, wanted in attributes.items():
            self.assert_exactly(getattr(caught.exception, name), wanted)
        self.assert_exactly(state_of(desk), before)

    def assert_answers(self, desk, lines):
        for line, wanted in lines:
            self.assert_exactly(desk.run(line), wanted)


class InterfaceTest(DeskCase):
    def test_names(self):
        self.assert_interface(desk_module, {"replayed_desk": ["system", "lines"]})
        self.assertIs(vars(desk_module)["Desk"], Desk)
        self.assertEqual(Desk.__module__, "fourread.desk")
        self.assertEqual(list(inspect.signature(Desk).parameters), ["system"])
        self.assertEqual(list(inspect.signature(vars(Desk)["run"]).parameters)[1:], ["line"])

    def test_arguments_by_name(self):
        desk = Desk(system=NO_SOLUTION)
        self.assert_exactly(desk.run(line="count"), "0")
        desk = replayed_desk(lines=["paper 11"], system=NO_SOLUTION)
        self.assert_exactly(desk.lines, ("paper 11",))

    def test_a_new_desk(self):
        for n in (1, 2, 3, 12):
            system = random_system(dice_for("new desk"), n, 2)
            desk = Desk(system)
            self.assertEqual(desk.system, system)
            self.assertEqual(desk.paper, paper_of((0,) * n))
            self.assert_exactly(desk.lines, ())
            self.assert_state(desk, Model(system))

    def test_what_is_no_system(self):
        values = [
            None, True, False, 0, 1, "", "system 1", (), [], (2, ()), [System(1, [])], (System(1, []),),
            nested(System(1, []), 9), nested(1, 10), *OBJECTS[:6], Share(1, 2), Table(1, (0, 1)), paper_of((1,)),
            Judge(System(1, []), paper_of((1,))), Desk(System(1, [])),
        ]
        for value in values:
            wanted = {"part": "system", "place": 0}
            self.assert_raises(InvalidSystem, wanted, Desk, value)
            for lines in ([], ["count"], ["what"]):
                self.assert_raises(InvalidSystem, wanted, replayed_desk, value, lines)


class DeedsTest(DeskCase):
    def test_add(self):
        desk = Desk(THREE)
        desk.run("paper 101")
        desk.run("change 110")
        paper = desk.paper
        self.assert_exactly(desk.run("add 0 2"), "system 3;0*1+2=1;0+2=0;0*1+1*2+0+2=0")
        self.assertEqual(desk.system, row_added(THREE, 0, 2))
        self.assertEqual(desk.paper, paper)
        self.assert_exactly(desk.lines, ("paper 101", "change 110", "add 0 2"))
        self.assert_exactly(desk.run("add 0 2"), TEXT_OF_THREE)
        many = System(1, [((), (), k % 2) for k in range(13)])
        self.assert_exactly(Desk(many).run("add 11 12"), "system 1" + ";-=0;-=1" * 6 + ";-=1")

    def test_fix(self):
        desk = Desk(THREE)
        desk.run("paper 111")
        desk.run("switch 000,111,000")
        self.assert_exactly(desk.run("fix 1 1"), "system 2;0+1=1;0+1=0;0+1=1")
        self.assertEqual(desk.system, fixed_system(THREE, 1, 1))
        self.assertEqual(desk.paper, paper_of((0, 0)))
        self.assert_exactly(desk.run("fix 0 0"), "system 1;0=1;0=0;0=1")
        self.assertEqual(desk.paper, paper_of((0,)))
        self.assert_exactly(desk.lines, ("paper 111", "switch 000,111,000", "fix 1 1", "fix 0 0"))
        self.assert_exactly((desk.run("undo"), desk.paper == paper_of((0, 0))), ("system 2;0+1=1;0+1=0;0+1=1", True))
        self.assert_exactly(desk.run("undo"), TEXT_OF_THREE)
        wanted = SumsPaper((1, 1, 1), ((1, 1, 1),) * 3, squares=(((0, 0, 0), (1, 1, 1), (0, 0, 0)),))
        self.assertEqual(desk.paper, wanted)

    def test_paper(self):
        desk = Desk(NO_SOLUTION)
        desk.run("change 10")
        for word in ("00", "01", "10", "11"):
            self.assert_exactly(desk.run("paper " + word), "1/14")
            self.assertEqual(desk.paper, paper_of(bits_of(word)))
        self.assert_exactly(Desk(THREE).run("paper 101"), "0/1")
        self.assert_exactly(Desk(System(12, [])).run("paper 101010101011"), "0/1")

    def test_change(self):
        desk = Desk(NO_SOLUTION)
        share = share_text(refused_share(NO_SOLUTION, SumsPaper((0, 0), ((0, 0),) * 2, words=((1, 0),))))
        self.assert_exactly(desk.run("change 10"), share)
        self.assert_exactly(desk.paper.words, ((1, 0),))
        desk.run("change 00")
        desk.run("change 11")
        self.assert_exactly(desk.paper.words, ((0, 0), (1, 0), (1, 1)))
        desk.run("change 00")
        self.assert_exactly(desk.paper.words, ((1, 0), (1, 1)))
        desk.run("change 11")
        self.assert_exactly(desk.run("change 10"), "1/14")
        self.assertEqual(desk.paper, paper_of((0, 0)))
        self.assert_exactly(len(desk.lines), 6)

    def test_switch(self):
        desk = Desk(NO_SOLUTION)
        share = share_text(refused_share(NO_SOLUTION, SumsPaper((0, 0), ((0, 0),) * 2, squares=(((1, 0), (0, 1)),))))
        self.assert_exactly(desk.run("switch 10,01"), share)
        desk.run("switch 00,11")
        desk.run("change 01")
        self.assert_exactly(desk.paper.squares, (((0, 0), (1, 1)), ((1, 0), (0, 1))))
        self.assert_exactly(desk.paper.words, ((0, 1),))
        desk.run("switch 10,01")
        self.assert_exactly(desk.paper.squares, (((0, 0), (1, 1)),))
        desk.run("switch 00,11")
        self.assertEqual(desk.paper, SumsPaper((0, 0), ((0, 0),) * 2, words=((0, 1),)))
        wide = ",".join(["1" * 12] * 12)
        desk = Desk(System(12, []))
        desk.run("switch " + wide)
        self.assert_exactly(desk.paper.squares, (((1,) * 12,) * 12,))

    def test_done_twice_gives_back_what_was(self):
        dice = dice_for("twice")
        for n in (1, 2, 5, 12):
            desk = Desk(random_system(dice, n, 2))
            for _ in range(4):
                desk.run("change " + bits_text(random_word(dice, n)))
                desk.run("switch " + square_text(random_matrix(dice, n)))
            paper, share = desk.paper, desk.run("refused")
            words = [*paper.words[:1], random_word(dice, n)]
            squares = [*paper.squares[:1], random_matrix(dice, n)]
            lines = ["change " + bits_text(word) for word in words]
            for line in lines + ["switch " + square_text(square) for square in squares]:
                desk.run(line)
                self.assert_exactly(desk.paper == paper, False)
                self.assert_exactly(desk.run(line), share)
                self.assertEqual(desk.paper, paper)


class QuestionsTest(DeskCase):
    def test_answers(self):
        desk = Desk(NO_SOLUTION)
        self.assert_answers(desk, [
            ("count", "0"), ("first", "none"), ("read", "none"), ("refused", "1/14"),
            ("kinds", "0/1,0/1,0/1,0/1,0/1,0/1,1/2"), ("throw 0 0111", "passes"), ("throw 6 1000000", "refused"),
            ("throw 6 0000000", "passes"), ("throw 6 0010000", "passes"),
        ])
        desk = Desk(THREE)
        self.assert_answers(desk, [("count", "1"), ("first", "101"), ("read", "none"), ("refused", "1/14")])
        self.assert_answers(desk, [("paper 101", "0/1"), ("read", "101"), ("refused", "0/1"), ("count", "1")])
        self.assert_answers(Desk(System(12, [])), [("count", "4096"), ("first", "0" * 12), ("refused", "0/1")])
        self.assert_answers(Desk(System(1, [((), (0,), 1)])), [("count", "1"), ("first", "1"), ("read", "none")])
        self.assert_answers(Desk(System(10, [])), [("read", "0" * 10)])

    def test_questions_change_nothing(self):
        desk = Desk(THREE)
        self.assert_answers(desk, [("paper 101", "0/1"), ("undo", TEXT_OF_THREE)])
        for line in ("count", "first", "refused", "kinds", "read", "throw 1 000111"):
            before = state_of(desk)
            desk.run(line)
            self.assert_exactly(state_of(desk), before)
        self.assert_exactly(desk.run("redo"), TEXT_OF_THREE)
        self.assert_exactly((desk.lines, desk.paper.word), (("paper 101",), (1, 0, 1)))

    def test_errors_of_the_functions(self):
        for n in (11, 12):
            self.assert_refused(Desk(System(n, [])), "read", TooMany, {"what": "letters"})
        desk = Desk(NO_SOLUTION)
        for kind in (7, 8, 10, 99):
            self.assert_refused(desk, f"throw {kind} 0", InvalidNumber, {"value": kind})
            self.assert_refused(desk, f"throw {kind} 0000", InvalidNumber, {"value": kind})
        for kind in range(7):
            length = length_of_tapes(2, 3, kind)
            for many in (1, length - 1, length + 1, 400):
                self.assert_refused(desk, f"throw {kind} " + "1" * many, InvalidTape, {"value": (1,) * many})


class UndoTest(DeskCase):
    def test_rows(self):
        desk = Desk(THREE)
        lines = ["add 0 1", "paper 110", "change 001", "fix 2 1", "switch 10,11", "add 1 0", "fix 0 0", "change 1"]
        states, answers = [state_of(desk)], []
        for line in lines:
            desk.run(line)
            states.append(state_of(desk))
            answers.append(";".join(write_system(desk.system).split("\n")))
        self.assert_exactly(desk.lines, tuple(lines))
        for _ in range(2):
            self.assert_refused(desk, "redo", NothingToUndo, {"word": "redo"})
            for count in range(len(lines) - 1, -1, -1):
                self.assert_exactly(desk.run("undo"), ([TEXT_OF_THREE] + answers)[count])
                self.assert_exactly(state_of(desk), states[count])
                self.assert_exactly(desk.lines, tuple(lines[:count]))
            self.assert_refused(desk, "undo", NothingToUndo, {"word": "undo"})
            for count in range(len(lines)):
                self.assert_exactly(desk.run("redo"), answers[count])
                self.assert_exactly(state_of(desk), states[count + 1])

    def test_nothing_to_undo(self):
        desk = Desk(THREE)
        self.assert_refused(desk, "undo", NothingToUndo, {"word": "undo"})
        self.assert_refused(desk, "redo", NothingToUndo, {"word": "redo"})
        desk.run("count")
        self.assert_refused(desk, "undo", NothingToUndo, {"word": "undo"})
        desk.run("paper 111")
        self.assert_refused(desk, "redo", NothingToUndo, {"word": "redo"})
        desk.run("undo")
        self.assert_refused(desk, "undo", NothingToUndo, {"word": "undo"})
        desk.run("redo")
        self.assert_refused(desk, "redo", NothingToUndo, {"word": "redo"})
        self.assert_exactly(desk.lines, ("paper 111",))

    def test_a_new_deed_ends_what_can_be_done_again(self):
        for deed in ("add 0 1", "fix 0 1", "paper 100", "change 000", "switch 000,000,000"):
            desk = Desk(THREE)
            for line in ("paper 111", "add 1 0", "undo", "undo"):
                desk.run(line)
            desk.run(deed)
            self.assert_refused(desk, "redo", NothingToUndo, {"word": "redo"})
            self.assert_exactly(desk.lines, (deed,))
            desk.run("undo")
            self.assert_exactly((state_of(desk), desk.lines), (state_of(Desk(THREE)), ()))
            desk.run("redo")
            self.assert_exactly(desk.lines, (deed,))

    def test_redo_after_part_of_it(self):
        desk = Desk(THREE)
        for line in ("paper 111", "paper 110", "paper 101", "undo", "undo", "undo", "redo", "redo", "undo", "redo"):
            desk.run(line)
        self.assert_exactly((desk.lines, desk.paper.word), (("paper 111", "paper 110"), (1, 1, 0)))
        desk.run("redo")
        self.assert_exactly((desk.lines[2:], desk.paper.word), (("paper 101",), (1, 0, 1)))

    def test_a_line_that_raises_keeps_what_can_be_done_again(self):
        for line in wrong_lines(3, 3):
            desk = Desk(THREE)
            for deed in ("paper 111", "change 110", "undo"):
                desk.run(deed)
            with self.assertRaises(ReadError):
                desk.run(line)
            self.assert_exactly(desk.run("redo"), TEXT_OF_THREE)
            self.assert_exactly(desk.lines, ("paper 111", "change 110"))
            with self.assertRaises(ReadError):
                desk.run(line)
            desk.run("undo")
            self.assert_exactly(desk.lines, ("paper 111",))


class ErrorsTest(DeskCase):
    def test_unknown_words(self):
        lines = [
            "", " ", "  ", " count", "  undo", "Count", "COUNT", "counts", "coun", "count\n", "\ncount", "count\t",
            "add\t0 1", "what", "what is", "add,0 1", "add0 1", "0", "add-0", "none", "system 3", "solutions", "lines",
            "undo\n", "replay", "None", "read\r", "throw_0 0", "deed", "-", "=", "switch,01", "*",
        ]
        for line in lines:
            self.assert_refused(Desk(THREE), line, UnknownWord, {"word": line.split(" ")[0]})

    def test_invalid_lines(self):
        lines = [
            # Words are lacking.
            ("add", 3), ("add 1", 5), ("fix", 3), ("fix 1", 5), ("paper", 5), ("change", 6), ("switch", 6),
            ("throw", 5), ("throw 0", 7), ("throw 99", 8),
            # A word too many.
            ("count 1", 6), ("count count", 6), ("first 0", 6), ("refused x", 8), ("kinds 0 0", 6), ("read 01", 5),
            ("undo 1", 5), ("redo redo", 5), ("add 0 1 2", 8), ("add 0 1 x y", 8), ("fix 0 1 1", 8), ("fix 10 1 1", 9),
            ("paper 01 1", 9), ("paper 0 1", 8), ("change 010 0", 11), ("switch 1 1", 9), ("switch 10,01 ,", 13),
            ("throw 0 01 1", 11), ("throw 10 01 01", 12),
            # A blank too many.
            ("add ", 4), ("add  ", 4), ("add  0 1", 4), ("add 0 ", 6), ("add 0  1", 6), ("add 0 1 ", 8),
            ("add 0 1  ", 8), ("count ", 6), ("count  ", 6), ("undo ", 5), ("redo  1", 5), ("paper ", 6),
            ("paper  01", 6), ("paper 01 ", 9), ("switch ", 7), ("switch 1 ", 9), ("throw ", 6), ("throw  0 1", 6),
            ("throw 0 ", 8), ("throw 0  1", 8), ("throw 0 1 ", 10), ("change  ", 7), ("fix 0 1 ", 8),
            # The first word that is wrong, with others wrong, too many or lacking behind it.
            ("add x", 4), ("add x y", 4), ("add x 1", 4), ("add 0 x", 6), ("add 0 x 2", 6), ("add x 1 2", 4),
            ("throw x", 6), ("throw 0 x", 8), ("throw x 2", 6), ("throw 3 012 ", 8), ("paper x y", 6),
            ("paper 012", 6), ("add 10 x", 7),
        ]
        for line, at in lines:
            self.assert_refused(Desk(THREE), line, InvalidLine, {"line": line, "at": at})

    def test_wrong_integers(self):
        wrong = [
            "00", "01", "09", "007", "100", "123", "-1", "-0", "+1", "1.", "1.0", "0x1", "1e1", "a", "1a", "a1", "1_0",
            "one", "1,2", "0,1", "*", "\t1", "1\t", "1\n", "\u0661", "\u00b2", "0\u0660", "--", "True", "None",
        ]
        for word in wrong:
            for line, at in [(f"add {word} 0", 4), (f"add 0 {word}", 6), (f"fix {word} 1", 4), (f"fix 10 {word}", 7)]:
                self.assert_refused(Desk(THREE), line, InvalidLine, {"line": line, "at": at})
            self.assert_refused(Desk(THREE), f"throw {word} 0", InvalidLine, {"line": f"throw {word} 0", "at": 6})

    def test_wrong_words_and_tapes(self):
        wrong = [
            "2", "012", "10a", "a", "-1", "+1", "1,0", "10,01", ",", "1.", "\u0661", "1\u0660", "1\n", "\t0", "1_0",
            "1e0", "0x1",
        ]
        for word in wrong:
            for line, at in [(f"paper {word}", 6), (f"change {word}", 7), (f"throw 0 {word}", 8)]:
                self.assert_refused(Desk(THREE), line, InvalidLine, {"line": line, "at": at})
        for many in (13, 14, 40, 400):
            for line, at in [("paper " + "0" * many, 6), ("change " + "1" * many, 7)]:
                self.assert_refused(Desk(THREE), line, InvalidLine, {"line": line, "at": at})
                self.assert_refused(Desk(System(12, [])), line, InvalidLine, {"line": line, "at": at})
        for many in (401, 402, 1000):
            for kind in (0, 6, 7, 99):
                line = f"throw {kind} " + "01" * (many // 2) + "0" * (many % 2)
                self.assert_refused(Desk(THREE), line, InvalidLine, {"line": line, "at": 7 + len(str(kind))})

    def test_wrong_squares(self):
        wrong = [
            "10", "1,0", "10,0", "1,01", "10,01,", ",10,01", "10,,01", ",", ",,", "10,01,11", "10;01", "100,010",
            "100,010,01", "2", "12,01", "10,0a", "0-1,10", "1,", ",1", "10.01", "1001", "\u0661", "10,0\u0661",
            ",".join(["0" * 13] * 13), ",".join(["0" * 12] * 13), ",".join(["0" * 13] * 12), ",".join(["0" * 12] * 11),
        ]
        for word in wrong:
            for system in (System(1, []), System(2, []), THREE, System(12, [])):
                line = "switch " + word
                self.assert_refused(Desk(system), line, InvalidLine, {"line": line, "at": 7})

    def test_errors_of_add(self):
        for many in (0, 1, 3, 12):
            desk = Desk(System(2, [((), (0,), 1)] * many))
            for i, j in [(many, 0), (0, many), (many, 99), (99, many), (many + 1, 0), (many + 1, many)]:
                wrong = i if i >= many else j
                self.assert_refused(desk, f"add {i} {j}", InvalidNumber, {"value": wrong})
            for k in range(many):
                self.assert_refused(desk, f"add {k} {k}", Undefined, {"what": "rows"})

    def test_errors_of_fix(self):
        for n in (1, 3, 12):
            desk = Desk(System(n, []))
            for place in (n, n + 1, 99):
                for bit in (0, 1, 2):
                    self.assert_refused(desk, f"fix {place} {bit}", InvalidNumber, {"value": place})
            for bit in (2, 3, 10, 99):
                self.assert_refused(desk, f"fix {n - 1} {bit}", InvalidNumber, {"value": bit})
        self.assert_refused(Desk(System(1, [])), "fix 0 0", Undefined, {"what": "system"})
        self.assert_refused(Desk(System(1, [])), "fix 0 1", Undefined, {"what": "system"})

    def test_words_and_squares_of_another_size(self):
        for n in (1, 2, 3, 12):
            desk = Desk(System(n, []))
            for size in range(1, 13):
                if size != n:
                    word = (1,) * (size - 1) + (0,)
                    self.assert_refused(desk, "paper " + bits_text(word), InvalidPaper, {"part": "size", "place": 0})
                    self.assert_refused(desk, "change " + bits_text(word), InvalidWord, {"value": word})
                    square = outer(word, (1,) * size)
                    self.assert_refused(desk, "switch " + square_text(square), InvalidSquare, {"value": square})

    def test_errors_after_fix(self):
        desk = Desk(THREE)
        desk.run("fix 0 0")
        self.assert_refused(desk, "paper 111", InvalidPaper, {"part": "size", "place": 0})
        self.assert_refused(desk, "change 111", InvalidWord, {"value": (1, 1, 1)})
        self.assert_refused(desk, "fix 2 0", InvalidNumber, {"value": 2})
        desk.run("undo")
        self.assert_refused(desk, "paper 11", InvalidPaper, {"part": "size", "place": 0})


class WalksTest(DeskCase):
    def walk(self, dice, system, many):
        """A desk and a model on which the same lines were run, with lines that raise between them."""
        desk, model = Desk(system), Model(system)
        for _ in range(many):
            line = right_line(dice, model)
            self.assert_exactly(desk.run(line), model.run(line))
            self.assert_state(desk, model)
            if dice.randrange(3) == 0:
                with self.assertRaises(ReadError):
                    desk.run(dice.choice(wrong_lines(model.state[0].n, len(model.state[0]))))
                self.assert_state(desk, model)
        return desk, model

    def test_many_lines(self):
        dice = dice_for("walks")
        for n in (1, 2, 2, 3, 3, 4, 5, 6, 8, 12):
            for many in (1, 2, 4):
                self.walk(dice, random_system(dice, n, many), 40)

    def test_replayed_desk(self):
        lines = ["paper 101", "count", "add 0 1", "undo", "change 111", "fix 0 1", "redo"]
        for sequence in (lines[:6], tuple(lines[:6])):
            desk = replayed_desk(THREE, sequence)
            self.assertIs(type(desk), Desk)
            self.assert_exactly(desk.lines, ("paper 101", "change 111", "fix 0 1"))
            self.assertEqual(desk.system, fixed_system(THREE, 0, 1))
            self.assert_exactly(sequence == type(sequence)(lines[:6]), True)
        self.assert_exactly(state_of(replayed_desk(THREE, [])), state_of(Desk(THREE)))
        self.assert_exactly(state_of(replayed_desk(THREE, ())), state_of(Desk(THREE)))
        self.assert_raises(NothingToUndo, {"word": "redo"}, replayed_desk, THREE, lines)
        self.assert_raises(UnknownWord, {"word": "what"}, replayed_desk, THREE, ["paper 101", "what", "add 9"])
        self.assert_raises(InvalidLine, {"line": "add 9"}, replayed_desk, THREE, ("paper 101", "add 9", "what"))

    def test_a_desk_and_its_replayed_desk_answer_alike(self):
        dice = dice_for("replayed")
        for n in (1, 2, 3, 4, 6, 11, 12):
            for _ in range(3):
                system = random_system(dice, n, 3)
                desk, _ = self.walk(dice, system, 15)
                other = replayed_desk(system, desk.lines)
                self.assert_exactly(state_of(other), state_of(desk))
                for count in range(20):
                    # Redo is left out: what was undone ahead of it, the other desk does not know.
                    lines = [right_line(dice, Model(desk.system)), "undo"] + wrong_lines(n, 3)[:-1]
                    line = lines[count % 4] if count % 4 < 2 else dice.choice(lines)
                    self.assert_exactly(self.told(desk, line), self.told(other, line))
                    self.assert_exactly(state_of(other), state_of(desk))

    def told(self, desk, line):
        """What the line answers, or how it raises."""
        try:
            return desk.run(line)
        except ReadError as error:
            return type(error), vars(error)

    def test_desks_do_not_share_anything(self):
        one, other = Desk(THREE), Desk(THREE)
        one.run("paper 111")
        one.run("undo")
        self.assert_refused(other, "redo", NothingToUndo, {"word": "redo"})
        one.run("redo")
        self.assert_exactly((other.lines, one.lines), ((), ("paper 111",)))
        self.assert_refused(other, "undo", NothingToUndo, {"word": "undo"})


if __name__ == "__main__":
    unittest.main()
