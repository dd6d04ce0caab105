"""[15]: the module systemtexts."""

import unittest
from itertools import product

from fourread import systemtexts
from fourread.errors import InvalidText
from fourread.systems import System
from fourread.systemtexts import read_system, write_system
from tests.support import Case, dice_for, random_system

SYSTEM = System(3, [(((0, 1), (0, 2)), (1,), 1), ((), (0, 2), 0), ((), (), 1)])
TEXT = "system 3\n0*1+0*2+1=1\n0+2=0\n-=1"

# Lines that are no equation between twelve unknowns.
NO_EQUATIONS = [
    "", " ", "-", "=", "0", "1", "=0", "=1", "0=", "-=", "-=2", "-=-1", "-=-", "-=00", "-=01", "-= 0", "-=0 ",
    " -=0", "- =0", "--=0", "-+0=1", "0+-=1", "-+-=0", "-*0=0", "-=0=0", "-=0=1", "0=1=1", "0==1", "+=0", "+0=1",
    "0+=1", "0++1=1", "0 + 1=1", "0+ 1=1", "0 +1=1", "0, 1=1", "0,1=1", "0-1=1", "0=2", "0=10", "0=11", "0=true",
    "0=True", "x0=1", "x=1", "0=x", "a*b=0", "12=0", "13=0", "99=0", "100=0", "00=0", "01=0", "0+01=0", "011=0",
    "-1=0", "+1=0", "1_1=0", "0x1=0", "1.0=0", "1e0=0", "0+0=0", "1+0=0", "0+1+1=0", "2+10+9=0", "10+2=1", "0*0=0",
    "1*0=0", "0*12=0", "0*13=0", "12*13=0", "0*01=0", "00*1=0", "0*1*2=0", "0*=0", "*0=0", "*=0", "0**1=0",
    "0 *1=0", "0* 1=0", "0*1+0*1=0", "0*2+0*1=0", "1*2+0*3=0", "0*10+0*2=0", "2*3+10*11+1*2=0", "0+0*1=0",
    "0+1+2*3=0", "0*1+2+0*3=0", "0*1=0\r", "0*1=0 ", " 0*1=0", "\t0=1", "0=1\t", "0*1+=0", "+0*1=0", "0*1+2",
    "0*1+2=", "0*1+2=1=", "(0)=1", "0.1=1", "system 12", "system 3", "system", "0*1;2=1", "none", "\r", "\x0b",
    "\u0660=1", "0=\u0661", "\u00b2=0", "\uff11=1", "0*\u0661=1", "\u00bd=0", "0\u22c51=0", "\u2212=0", "\ud800=0",
    "0=1\u2028", "0=1\x85", "0=1\x1c0=1", "-=1;-=1",
]

# Lines that tell no size.
NO_SIZES = [
    "", " ", "system", "system ", "system 0", "system 13", "system 14", "system 99", "system 100", "system 00",
    "system 01", "system 012", "system 1 ", " system 1", "system  1", "system\t1", "system1", "System 1",
    "SYSTEM 1", "system -1", "system +1", "system 1.0", "system 1_0", "system 0x1", "system x", "system one",
    "system 1 2", "systems 1", "sys 1", "1", "12", "3", "system 3\r", "system\n3", "system 3;", "system=3",
    "system 3=0", "-=0", "0*1+2=1", "system \u0663", "system \u00b2", "system \uff13", "\u0455ystem 3",
    "system\u00a03", "system 3\u2028-=0", "system 3\x0b-=0", "system None",
]


class InterfaceTest(Case):
    def test_names(self):
        self.assert_interface(systemtexts, {"write_system": ["system"], "read_system": ["text"]})

    def test_arguments_by_name(self):
        self.assert_exactly(write_system(system=SYSTEM), TEXT)
        self.assert_system(read_system(text=TEXT), 3, SYSTEM.equations)


class ThereAndBackTest(Case):
    def test_examples(self):
        for text, n, equations in (
            (TEXT, 3, SYSTEM.equations), ("system 1", 1, []), ("system 12", 12, []),
            ("system 1\n-=0", 1, [((), (), 0)]), ("system 1\n-=1\n-=1", 1, [((), (), 1)] * 2),
            ("system 1\n0=1", 1, [((), (0,), 1)]), ("system 2\n0*1=0", 2, [(((0, 1),), (), 0)]),
            ("system 3\n0*1+2=1", 3, [(((0, 1),), (2,), 1)]),
            ("system 10\n9=0\n8*9+0+9=1", 10, [((), (9,), 0), (((8, 9),), (0, 9), 1)]),
            ("system 12\n0*2+0*10+9*11+10*11+2+9+10+11=0", 12, [
                (((0, 2), (0, 10), (9, 11), (10, 11)), (2, 9, 10, 11), 0),
            ]),
        ):
            self.assert_there_and_back(System(n, equations), text)

    def test_many_systems(self):
        dice = dice_for("systemtexts")
        for n in range(1, 13):
            for many in (0, 1, 2, 7, 40 if n < 8 else 12):
                system = random_system(dice, n, many)
                self.assert_there_and_back(system, self.text_of(system))

    def text_of(self, system):
        """The text of a system, by the document's words."""
        text = "system " + str(system.n)
        for pairs, singles, right in system.equations:
            terms = [str(i) + "*" + str(j) for i, j in pairs] + [str(i) for i in singles]
            text += "\n" + ("+".join(terms) or "-") + "=" + str(right)
        return text

    def assert_there_and_back(self, system, text):
        self.assert_exactly(write_system(system), text)
        self.assert_system(read_system(text), system.n, system.equations)
        self.assertEqual(read_system(write_system(system)), system)


class WrongTextTest(Case):
    def test_empty_texts(self):
        for text in ("", "\n", "\n\n", "\nsystem 1", "\n-=0"):
            self.assert_raises(InvalidText, {"text": text, "at": 0}, read_system, text)

    def test_wrong_sizes(self):
        for size in NO_SIZES:
            for text in (size, size + "\n", size + "\n-=0", size + "\n\n", size + "\nwrong"):
                self.assert_raises(InvalidText, {"text": text, "at": 0}, read_system, text)

    def test_right_sizes(self):
        for n in range(1, 13):
            self.assert_system(read_system(f"system {n}"), n, [])

    def test_wrong_lines(self):
        for ahead in ("system 12", "system 12\n-=0", "system 12\n0*11+10*11+0+11=1\n-=1\n3=0"):
            for line in NO_EQUATIONS:
                for behind in ("", "\n", "\n-=0", "\nwrong", "\nsystem 12"):
                    text = ahead + "\n" + line + behind
                    self.assert_raises(InvalidText, {"text": text, "at": len(ahead) + 1}, read_system, text)

    def test_a_line_feed_behind_the_last_line(self):
        for text in (TEXT, "system 1", "system 12\n-=0"):
            for behind in ("\n", "\n\n", "\n\n-=0"):
                wanted = {"text": text + behind, "at": len(text) + 1}
                self.assert_raises(InvalidText, wanted, read_system, text + behind)

    def test_an_empty_line_within(self):
        for text, at in (("system 3\n\n0=1", 9), ("system 3\n0=1\n\n0=1", 13), ("system 3\n\n\n", 9)):
            self.assert_raises(InvalidText, {"text": text, "at": at}, read_system, text)

    def test_unknowns_that_there_are_not(self):
        for n in range(1, 13):
            for line in (f"{n}=0", f"0+{n}=0", f"0*{n}=0", f"{n}*{n + 1}=1", f"{n + 10}=0"):
                text = f"system {n}\n-=0\n{line}\n-=1"
                self.assert_raises(InvalidText, {"text": text, "at": len(f"system {n}\n-=0\n")}, read_system, text)

    def test_the_first_wrong_line(self):
        text = "system 3\n0=1\n1+0=1\n3=1"
        self.assert_raises(InvalidText, {"text": text, "at": 13}, read_system, text)

    def test_texts_changed_at_a_place(self):
        """Every text of one sign more, less or another is refused at the line changed, or it is a system's text."""
        for place, sign in product(range(len(TEXT) + 1), "0129-+*= \nsx"):
            for text in (TEXT[:place] + sign + TEXT[place + 1:], TEXT[:place] + sign + TEXT[place:]):
                self.assert_text(text)
        for place in range(len(TEXT)):
            self.assert_text(TEXT[:place] + TEXT[place + 1:])
            self.assert_text(TEXT[:place])

    def assert_text(self, text):
        try:
            system = read_system(text)
        except InvalidText as error:
            self.assertTrue(error.at == 0 or text[error.at - 1] == "\n", text)
            # What stands ahead is a text, with the line itself it is none.
            if error.at > 0:
                read_system(text[:error.at - 1])
            with self.assertRaises(InvalidText) as caught:
                read_system(text[:error.at] + text[error.at:].split("\n")[0])
            self.assertEqual(caught.exception.at, error.at)
        else:
            self.assert_exactly(write_system(system), text)


if __name__ == "__main__":
    unittest.main()
