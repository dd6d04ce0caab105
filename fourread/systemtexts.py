"""Texts of systems."""

from fourread.basics import LONGEST_WORD, is_between, number_read
from fourread.errors import InvalidText
from fourread.systems import System, is_equation


def write_equation(equation):
    """The line of an equation."""
    pairs, singles, right = equation
    terms = [f"{i}*{j}" for i, j in pairs] + [str(i) for i in singles]
    left = "+".join(terms) if terms else "-"
    return f"{left}={right}"


def write_system(system):
    """The text of a system."""
    return "\n".join([f"system {system.n}"] + [write_equation(equation) for equation in system.equations])


def size_read(line):
    """The size that a first line tells, or None."""
    head, _, size = line.partition(" ")
    n = number_read(size, LONGEST_WORD)
    return n if head == "system" and is_between(n, 1, LONGEST_WORD) else None


def equation_read(line, n):
    """The equation between n unknowns that a line writes, or None."""
    left, _, right = line.partition("=")
    terms = [] if left == "-" else [term.split("*") for term in left.split("+")]
    parts = [tuple([number_read(word, n - 1) for word in term]) for term in terms]
    pairs = tuple([part for part in parts if len(part) == 2])
    singles = tuple([part[0] for part in parts if len(part) == 1])
    equation = (pairs, singles, number_read(right, 1))
    # What the parts do not tell, as singles ahead of pairs, shows when the equation is written back.
    return equation if is_equation(equation, n) and write_equation(equation) == line else None


def read_system(text):
    """The system whose text this is."""
    lines = text.split("\n")
    n = size_read(lines[0])
    if n is None:
        raise InvalidText(text, 0)
    equations = []
    at = len(lines[0]) + 1
    for line in lines[1:]:
        equation = equation_read(line, n)
        if equation is None:
            raise InvalidText(text, at)
        equations.append(equation)
        at = at + len(line) + 1
    return System(n, equations)
