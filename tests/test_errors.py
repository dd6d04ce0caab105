"""[3]: the errors."""

import unittest

from fourread import errors
from fourread.errors import ReadError
from tests.support import Case, NO_INTEGERS, NO_MATRICES, NO_WORDS

ATTRIBUTES = {
    "InvalidNumber": ("value",), "InvalidWord": ("value",), "InvalidWords": ("value",), "InvalidMatrix": ("value",),
    "InvalidSquare": ("value",), "InvalidTable": ("value",), "InvalidShare": ("value",),
    "InvalidSystem": ("part", "place"), "InvalidClause": ("place",), "InvalidGate": ("place",),
    "InvalidTie": ("place",), "InvalidTerm": ("place",), "InvalidPaper": ("part", "place"),
    "InvalidTape": ("value",), "InvalidList": ("value",), "InvalidText": ("text", "at"),
    "InvalidLine": ("line", "at"), "UnknownWord": ("word",), "TooMany": ("what",), "Undefined": ("what",),
    "NothingToUndo": ("word",),
}

KINDS = [(getattr(errors, name), names) for name, names in ATTRIBUTES.items()]


def new_arguments(names):
    """A list of its own for each name: equal to no other one."""
    return [[name] for name in names]


def raised(kind, arguments):
    raise kind(*arguments)


class ErrorsTest(Case):
    def test_all_are_defined_in_their_file(self):
        self.assertEqual(len(KINDS), 21)
        for kind, _ in KINDS + [(ReadError, ())]:
            self.assertIsInstance(kind, type)
            self.assertEqual(kind.__module__, "fourread.errors")
            self.assertIs(vars(errors)[kind.__name__], kind)

    def test_read_error_is_a_value_error(self):
        self.assertEqual(ReadError.__bases__, (ValueError,))

    def test_all_stand_directly_under_read_error(self):
        for kind, _ in KINDS:
            self.assertEqual(kind.__bases__, (ReadError,), kind)
            for other, _ in KINDS:
                self.assertEqual(issubclass(kind, other), kind is other, (kind, other))

    def test_arguments_by_place(self):
        for kind, names in KINDS:
            arguments = new_arguments(names)
            self.assert_keeps(kind(*arguments), names, arguments)

    def test_arguments_by_name(self):
        for kind, names in KINDS:
            arguments = new_arguments(names)
            self.assert_keeps(kind(**dict(zip(names, arguments))), names, arguments)
            backwards = dict(zip(names[::-1], arguments[::-1]))
            self.assert_keeps(kind(**backwards), names, arguments)

    def test_first_by_place_second_by_name(self):
        for kind, names in KINDS:
            if len(names) == 2:
                arguments = new_arguments(names)
                self.assert_keeps(kind(arguments[0], **{names[1]: arguments[1]}), names, arguments)

    def test_any_value_at_all(self):
        for value in [*NO_INTEGERS, *NO_WORDS, *NO_MATRICES, 0, 1, -1, 7, 10 ** 60]:
            for kind, names in KINDS:
                arguments = [value, 3][:len(names)]
                self.assert_keeps(kind(*arguments), names, arguments)
                arguments = arguments[::-1]
                self.assert_keeps(kind(*arguments), names, arguments)

    def test_a_list_that_is_changed_afterwards(self):
        for kind, names in KINDS:
            arguments = [[1, [2]] for _ in names]
            error = kind(*arguments)
            for argument in arguments:
                argument.append(3)
                argument[1].append(4)
            self.assert_keeps(error, names, arguments)
            self.assertEqual(getattr(error, names[0]), [1, [2, 4], 3])

    def test_each_is_caught_as_its_own_kind(self):
        for kind, names in KINDS:
            arguments = new_arguments(names)
            for wider in (kind, ReadError, ValueError, Exception):
                with self.assertRaises(wider) as caught:
                    raised(kind, arguments)
                self.assertIs(type(caught.exception), kind)
                self.assert_keeps(caught.exception, names, arguments)

    def test_each_passes_the_handlers_of_other_kinds(self):
        for kind, names in KINDS:
            others = tuple(other for other, _ in KINDS if other is not kind)
            with self.assertRaises(kind):
                try:
                    raised(kind, [1] * len(names))
                except others:
                    self.fail(f"{kind} was caught as another kind")

    def assert_keeps(self, error, names, arguments):
        self.assertIsInstance(error, ReadError)
        self.assertIsInstance(error, ValueError)
        for name, argument in zip(names, arguments):
            self.assertIs(getattr(error, name), argument)


if __name__ == "__main__":
    unittest.main()
