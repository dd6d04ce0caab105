"""[17]: the module circuits."""

import inspect
import unittest
from itertools import product

from fourread import circuits
from fourread.circuits import Circuit, circuit_system
from fourread.errors import InvalidGate, InvalidNumber, InvalidTerm, InvalidWord, TooMany
from fourread.shares import Share
from fourread.systems import System
from fourread.tables import Table
from fourread.words import all_words
from tests.support import (
    Case, NO_INTEGERS, NO_WORDS, OBJECTS, ONE, dice_for, equation_that, multiplied, nested, random_word, unknown,
)

GATES = [("and", 0, 1), ("or", 0, 1), ("xor", 2, 3), ("not", 4), ("or", 5, 5)]

VALUES = [True, False, None, "0", "", (), (0,), [], [0], Share(0, 1), Share(1, 1), Table(1, (0, 1))]


def random_gates(dice, inputs, many):
    found = []
    for line in range(inputs, inputs + many):
        kind = dice.choice(["and", "or", "xor", "not"])
        found.append((kind, *[dice.randrange(line) for _ in range(1 if kind == "not" else 2)]))
    return found


def bits_of_lines(gates, word):
    """The bits of all lines, by the document's words."""
    bits = list(word)
    for gate in gates:
        first, last = bits[gate[1]], bits[gate[-1]]
        bits.append({"and": first * last, "or": max(first, last), "xor": int(first != last), "not": 1 - first}[gate[0]])
    return tuple(bits)


def equations_of(circuit, wished):
    """The equations of the system, by the document's words."""
    found = []
    for line, (kind, *named) in enumerate(circuit.gates, circuit.inputs):
        z, a, b = unknown(line), unknown(named[0]), unknown(named[-1])
        terms = {"and": z ^ multiplied(a, b), "or": z ^ a ^ b ^ multiplied(a, b), "xor": z ^ a ^ b, "not": z ^ a}[kind]
        found.append(equation_that(terms, int(kind == "not")))
    return found + [((), (line,), bit) for line, bit in wished]


def wrong_gates():
    """Values that are no gate behind three lines, each for a reason of its own."""
    wrong = [
        None, True, False, 0, 1, "", "and", "not", "not0", (), [], ("and",), ("not",), ("and", 0), ("or", 0),
        ("xor", 1), ("not", 0, 1), ("not", 0, 0), ("and", 0, 1, 2), ("or", 0, 1, 0), ("xor", 0, 0, 0), ["and", 0, 1],
        ["not", 0], ("AND", 0, 1), ("And", 0, 1), ("nand", 0, 1), ("an", 0, 1), ("", 0, 1), ("", 0), ("nor", 0, 1),
        ("NOT", 0), ("nots", 0), ("and ", 0, 1), (" or", 0, 1), ("xor", (0, 1)), ("and", [0, 1]), (("and", 0, 1),),
        (("not", 0),), (0, 1), (0, 1, 2), (0, "and", 1), ("and", 0, "or"), ("not", "not"), ("0", 0, 1), ("copy", 0),
        ("id", 0), (("and",), 0, 1), (["not"], 0), (None, 0), (None, 0, 1), (True, 0, 1), (Share(1, 1), 0),
        (Table(1, (0, 1)), 0, 1), (0, 0), nested("and", 9), nested(("not", 0), 8), *OBJECTS,
    ]
    for value in [*VALUES, 3, 4, -1, -3, 12, 2 ** 70]:
        wrong = wrong + [("not", value)]
        for kind in ("and", "or", "xor"):
            wrong = wrong + [(kind, value, 0), (kind, 1, value), (kind, value, value)]
    return wrong


def wrong_wishes(lines):
    """Values that are no pair of one of so many lines and a bit, each for a reason of its own."""
    wrong = [
        None, True, 0, 1, "", "01", (), [], (0,), (0, 1, 1), [0, 1], ((0, 1),), ((0, 1), 1), (0, (1,)), (lines, 1),
        (lines + 1, 0), (-1, 0), (2 ** 70, 1), (0, 2), (0, -1), (7, 2 ** 70), ("and", 1), (0, "and"), *OBJECTS,
        nested((0, 1), 8),
    ]
    return wrong + [(value, 1) for value in VALUES] + [(0, value) for value in VALUES]


class InterfaceTest(Case):
    def test_names(self):
        self.assert_interface(circuits, {"circuit_system": ["circuit", "wished"]})
        self.assertIs(vars(circuits)["Circuit"], Circuit)
        self.assertEqual(Circuit.__module__, "fourread.circuits")
        for name in ("__init__", "lines"):
            self.assertIn(name, vars(Circuit))
        self.assertEqual(list(inspect.signature(Circuit).parameters), ["inputs", "gates"])
        self.assertEqual(list(inspect.signature(Circuit.lines).parameters)[1:], ["word"])

    def test_arguments_by_name(self):
        circuit = Circuit(gates=[("not", 0)], inputs=1)
        self.assert_exactly((circuit.inputs, circuit.gates, circuit.lines(word=(1,))), (1, (("not", 0),), (1, 0)))
        self.assert_system(circuit_system(wished=[(1, 1)], circuit=circuit), 2, [((), (0, 1), 1), ((), (1,), 1)])


class CircuitTest(Case):
    def test_lists_and_tuples(self):
        dice = dice_for("Circuit")
        for inputs in range(1, 13):
            for many in (0, 1, 5, 40):
                gates = random_gates(dice, inputs, many)
                for circuit in (Circuit(inputs, gates), Circuit(inputs, tuple(gates))):
                    self.assert_exactly((circuit.inputs, circuit.gates), (inputs, tuple(gates)))

    def test_a_list_that_is_changed_afterwards(self):
        gates = list(GATES)
        circuit = Circuit(2, gates)
        self.assert_exactly(gates, GATES)
        gates[0] = ("xor", 0, 1)
        gates.append(("not", 0))
        self.assert_exactly(circuit.gates, tuple(GATES))
        self.assert_exactly(circuit.lines((1, 1)), (1, 1, 1, 1, 0, 1, 1))
        self.assert_exactly(len(circuit_system(circuit, [])), 5)

    def test_wrong_inputs_come_first(self):
        for inputs in [0, 13, -1, -12, 2 ** 70, *NO_INTEGERS]:
            for gates in ([], [("not", 0)], [None], None, "not"):
                self.assert_raises(InvalidNumber, {"value": inputs}, Circuit, inputs, gates)

    def test_wrong_gates(self):
        for wrong in wrong_gates():
            for behind in ([], [("not", 0)], [wrong], [None]):
                self.assert_raises(InvalidGate, {"place": 0}, Circuit, 3, [wrong] + behind)
                self.assert_raises(InvalidGate, {"place": 0}, Circuit, 3, (wrong, *behind))

    def test_the_first_wrong_place(self):
        wrong = [None, (), ("and", 0), ("not", 0, 0), ["not", 0], ("not", True), ("nor", 0, 1), ("xor", 0, -1)]
        for ahead in (1, 2, 11, 39):
            for value in [*wrong, ("not", ahead + 2), ("and", 0, ahead + 2), ("or", ahead + 3, 0)]:
                for behind in ([], [("not", 0)], [None]):
                    gates = [("and", 0, k + 1) for k in range(ahead)] + [value] + behind
                    self.assert_raises(InvalidGate, {"place": ahead}, Circuit, 2, gates)
                    self.assert_raises(InvalidGate, {"place": ahead}, Circuit, 2, tuple(gates))

    def test_earlier_lines_alone(self):
        for inputs in range(1, 13):
            for ahead in (0, 1, 7):
                gates = [("not", 0)] * ahead
                line = inputs + ahead
                for gate in (("not", line - 1), ("and", line - 1, 0), ("or", 0, line - 1), ("xor", line - 1, line - 1)):
                    self.assert_exactly(Circuit(inputs, gates + [gate]).gates, tuple(gates + [gate]))
                for gate in (("not", line), ("and", line, 0), ("or", 0, line), ("xor", line, line), ("not", line + 1)):
                    self.assert_raises(InvalidGate, {"place": ahead}, Circuit, inputs, gates + [gate, ("not", 0)])

    def test_no_sequences(self):
        for value in [None, True, False, 0, 1, "", "not", *OBJECTS]:
            self.assert_raises(InvalidGate, {"place": 0}, Circuit, 2, value)


class LinesTest(Case):
    def test_each_gate(self):
        for kind in ("and", "or", "xor"):
            for a, b in product(range(3), repeat=2):
                self.assert_lines(3, [(kind, a, b)])
        for a in range(3):
            self.assert_lines(3, [("not", a)])

    def test_truth_tables(self):
        gates = [("and", 0, 1), ("or", 0, 1), ("xor", 0, 1), ("not", 0), ("and", 1, 1), ("or", 1, 1), ("xor", 1, 1)]
        found = [Circuit(2, gates).lines(word)[2:] for word in all_words(2)]
        self.assert_exactly(found, [
            (0, 0, 0, 1, 0, 0, 0), (0, 1, 1, 1, 1, 1, 0), (0, 1, 1, 0, 0, 0, 0), (1, 1, 0, 0, 1, 1, 0),
        ])

    def test_gates_behind_gates(self):
        dice = dice_for("lines")
        for inputs in range(1, 8):
            for many in (0, 1, 4, 12, 40):
                self.assert_lines(inputs, random_gates(dice, inputs, many))
        circuit = Circuit(12, random_gates(dice, 12, 40))
        for _ in range(40):
            word = random_word(dice, 12)
            self.assert_exactly(circuit.lines(word), bits_of_lines(circuit.gates, word))

    def test_wrong_words(self):
        for inputs in range(1, 13):
            circuit = Circuit(inputs, [("not", 0)])
            longer = [(0,) * length for length in range(1, 13) if length != inputs]
            for word in [*NO_WORDS, *longer, [0] * inputs]:
                self.assert_raises(InvalidWord, {"value": word}, circuit.lines, word)

    def assert_lines(self, inputs, gates):
        circuit = Circuit(inputs, gates)
        for word in all_words(inputs):
            self.assert_exactly(circuit.lines(word), bits_of_lines(gates, word))


class CircuitSystemTest(Case):
    def test_each_gate(self):
        for kind in ("and", "or", "xor"):
            for a, b in product(range(3), repeat=2):
                self.assert_equations(Circuit(3, [(kind, a, b)]), [])
        for a in range(3):
            self.assert_equations(Circuit(3, [("not", a)]), [])

    def test_gates_and_wishes(self):
        dice = dice_for("circuit_system")
        for inputs in range(1, 13):
            for many in range(13 - inputs):
                circuit = Circuit(inputs, random_gates(dice, inputs, many))
                for wishes in (0, 1, 3, 40):
                    wished = [(dice.randrange(inputs + many), dice.randrange(2)) for _ in range(wishes)]
                    self.assert_equations(circuit, wished)
                    self.assert_equations(circuit, tuple(wished))

    def test_examples(self):
        for gates, wished, equations in (
            ([("and", 0, 1)], [], [(((0, 1),), (2,), 0)]),
            ([("or", 1, 0)], [], [(((0, 1),), (0, 1, 2), 0)]),
            ([("xor", 1, 0)], [(2, 1)], [((), (0, 1, 2), 0), ((), (2,), 1)]),
            ([("not", 1)], [(2, 0), (0, 1)], [((), (1, 2), 1), ((), (2,), 0), ((), (0,), 1)]),
            ([("and", 1, 1)], [], [((), (1, 2), 0)]),
            ([("or", 1, 1)], [], [((), (1, 2), 0)]),
            ([("xor", 1, 1)], [], [((), (2,), 0)]),
            ([], [(1, 0), (1, 0), (1, 1)], [((), (1,), 0), ((), (1,), 0), ((), (1,), 1)]),
        ):
            self.assert_system(circuit_system(Circuit(2, gates), wished), 2 + len(gates), equations)

    def test_just_twelve_lines(self):
        for inputs in range(1, 13):
            circuit = Circuit(inputs, [("not", 0)] * (12 - inputs))
            self.assert_exactly(circuit_system(circuit, [(11, 1)]).n, 12)

    def test_more_than_twelve_lines(self):
        for inputs in range(1, 13):
            for more in (1, 2, 28):
                circuit = Circuit(inputs, [("not", 0)] * (12 - inputs + more))
                for wished in ([], [(0, 1)], [(11 + more, 0)]):
                    self.assert_raises(TooMany, {"what": "unknowns"}, circuit_system, circuit, wished)
                for wrong in ((12 + more, 1), (0, 2), None):
                    self.assert_raises(InvalidTerm, {"place": 1}, circuit_system, circuit, [(0, 1), wrong])

    def test_wrong_wishes(self):
        for circuit in (Circuit(3, GATES), Circuit(3, GATES * 8)):
            for wrong in wrong_wishes(3 + len(circuit.gates)):
                for ahead in (0, 1, 2, 39):
                    for behind in ([], [(0, 1)], [wrong, None]):
                        wished = [(k % 8, k % 2) for k in range(ahead)] + [wrong] + behind
                        self.assert_raises(InvalidTerm, {"place": ahead}, circuit_system, circuit, wished)
                        self.assert_raises(InvalidTerm, {"place": ahead}, circuit_system, circuit, tuple(wished))

    def test_no_sequences(self):
        for circuit in (Circuit(3, GATES), Circuit(12, GATES)):
            for value in [None, True, False, 0, 1, "", "not", *OBJECTS, System(2, [])]:
                self.assert_raises(InvalidTerm, {"place": 0}, circuit_system, circuit, value)

    def assert_equations(self, circuit, wished):
        many = circuit.inputs + len(circuit.gates)
        self.assert_system(circuit_system(circuit, wished), many, equations_of(circuit, wished))


class BoldTest(Case):
    def test_the_solutions(self):
        dice = dice_for("bold of circuits")
        for inputs in range(1, 7):
            for many in range(5):
                circuit = Circuit(inputs, random_gates(dice, inputs, many))
                for wishes in range(4):
                    wished = [(dice.randrange(inputs + many), dice.randrange(2)) for _ in range(wishes)]
                    found = [circuit.lines(word) for word in all_words(inputs)]
                    wanted = [lines for lines in found if all(lines[line] == bit for line, bit in wished)]
                    self.assert_exactly(circuit_system(circuit, wished).solutions(), tuple(wanted))


if __name__ == "__main__":
    unittest.main()
