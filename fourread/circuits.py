"""Circuits of gates, and systems from them."""

from fourread.basics import first_none, is_between, is_place_with_bit
from fourread.errors import InvalidGate, InvalidTerm, InvalidWord
from fourread.systems import System, check_unknowns, equation_of, multiplied_out
from fourread.words import check_length, is_word

# How many lines a gate of each kind names.
LINES_NAMED = (("and", 2), ("or", 2), ("xor", 2), ("not", 1))


def is_gate(value, many):
    """Whether value is a gate that names lines below this number alone."""
    if not isinstance(value, tuple) or len(value) == 0 or (value[0], len(value) - 1) not in LINES_NAMED:
        return False
    return all([is_between(line, 0, many - 1) for line in value[1:]])


def check_gates(inputs, gates):
    """Raise InvalidGate unless gates is a sequence of gates that name earlier lines alone."""
    place = first_none(gates, lambda at: is_gate(gates[at], inputs + at))
    if place is not None:
        raise InvalidGate(place)


def gate_sum(gate):
    """The terms whose sum is the bit of the gate's line."""
    first = [(gate[1],)]
    if gate[0] == "not":
        return first + [()]
    other = [(gate[2],)]
    if gate[0] == "xor":
        return first + other
    both = multiplied_out(first, other)
    return both if gate[0] == "and" else first + other + both


def sum_at(terms, bits):
    """The sum of the terms where the unknowns are these bits."""
    return len([term for term in terms if all([bits[unknown] for unknown in term])]) & 1


class Circuit:
    """Gates behind inputs, each of which names earlier lines alone."""

    def __init__(self, inputs, gates):
        check_length(inputs)
        check_gates(inputs, gates)
        self.inputs = inputs
        self.gates = tuple(gates)

    def lines(self, word):
        """The bits of all lines where the inputs are the word's bits."""
        if not is_word(word, self.inputs):
            raise InvalidWord(word)
        bits = word
        for gate in self.gates:
            bits = bits + (sum_at(gate_sum(gate), bits),)
        return bits


def circuit_system(circuit, wished):
    """The system whose solutions are the bits of all lines in which the wished lines have the wished bits."""
    many = circuit.inputs + len(circuit.gates)
    place = first_none(wished, lambda at: is_place_with_bit(wished[at], many))
    if place is not None:
        raise InvalidTerm(place)
    check_unknowns(many)
    equations = [
        equation_of([(line,)] + gate_sum(gate), 0) for line, gate in enumerate(circuit.gates, start=circuit.inputs)
    ]
    return System(many, equations + [equation_of([(line,)], bit) for line, bit in wished])
