"""[4]: names, low and high ones, wherever they stand."""

import unittest

from justfreed.programs import is_kinds, is_program
from tests.samples import LIST_KINDS, ODD

WORDS = ("case", "drop", "entry", "free", "fun", "give", "hold", "in", "into", "kind", "number")
CELLS = ("r", "t", "r0", "t0", "r1", "t1", "r31", "t15", "r007", "t99999", "r123456789", "t123456789", "r00", "t32")

LOW = ("a", "z", "f", "abcdefghij", "a123456789", "aB", "zZ9", "ra", "ta", "r1a", "t1a", "rR", "tT1", "rt", "r1r", "tt",
       "rr1", "cases", "kinds", "inn", "intO", "iN", "numbers", "numbeR", "holding", "give0", "i", "n", "in2", "make",
       "match", "call", "add", "sub", "less", "q", "s", "u", "entry1", "fUn", "into1", "k", "m0", "x9y8z7w6v5")
HIGH = ("A", "Z", "R", "T", "R1", "T1", "R0", "T15", "R123456789", "T99", "Abcdefghij", "A123456789", "ABCDEFGHIJ", "Ab",
        "Case", "Number", "NUMBER", "In", "Kind", "Give", "Hold", "Free", "Fun", "Entry", "Drop", "Into", "Ra", "X9Y8Z7")
NEITHER = WORDS + CELLS + ODD + (
    "abcdefghijk", "a1234567890", "Abcdefghijk", "A1234567890", "ABCDEFGHIJK", "R1234567890", "r1234567890", "0", "1a",
    "9A", "0123456789", "_a", "_A", "a_b", "A_b", "a-b", "A b", " a", " A", "a ", "A ", "a\n", "A\n", "\na", "\nA", "a.b",
    "A.b", "a'", "A(", "-", "~", "a~", "A~", "@", "A@", "A[", "A`", "a{", "a/", "A:", "a:", ("a",), ("A",), ["a"], ["A"],
    {"a": "a"}, 0, 1, b"a", b"A",
)


def kinds_named(name):
    return ((name, (("Zz", ()),)),)


def kinds_with_maker(name):
    return (("Zz", ((name, ()),)),)


def kinds_with_field(name):
    return ((name, (("Zz", (name,)),)),)


def with_function(name):
    return (LIST_KINDS, ((name, (), "number", (("give", 0),)),))


def with_called(name):
    return (LIST_KINDS, (("f", (), "number", (("call", 0, name, (), 0),)),))


def with_param(name):
    return (LIST_KINDS, (("f", (name,), "number", (("give", 0),)),))


def with_result(name):
    return (LIST_KINDS, (("f", (), name, (("give", 0),)),))


def with_made(name):
    return (LIST_KINDS, (("f", (), "number", (("make", 0, name, (), 0),)),))


WANT_LOW = ((is_program, with_function), (is_program, with_called))
WANT_HIGH = ((is_kinds, kinds_named), (is_kinds, kinds_with_maker), (is_kinds, kinds_with_field), (is_program, with_made))
WANT_WORD = ((is_program, with_param), (is_program, with_result))


class NamesTest(unittest.TestCase):
    def expect(self, wants, names, expected):
        for judge, put in wants:
            for name in names:
                self.assertIs(judge(put(name)), expected, (put.__name__, repr(type(name)), str(name)[:20]
                                                           if type(name) is str else None))

    def test_low_names(self):
        self.expect(WANT_LOW, LOW, True)
        self.expect(WANT_HIGH + WANT_WORD, LOW, False)

    def test_high_names(self):
        self.expect(WANT_HIGH + WANT_WORD, HIGH, True)
        self.expect(WANT_LOW, HIGH, False)

    def test_the_word_number_stands_for_params_and_results_alone(self):
        self.expect(WANT_WORD, ("number",), True)
        self.expect(WANT_LOW + WANT_HIGH, ("number",), False)

    def test_what_is_no_name(self):
        self.expect(WANT_LOW + WANT_HIGH, NEITHER, False)
        self.expect(WANT_WORD, [thing for thing in NEITHER if type(thing) is not str or thing != "number"], False)

    def test_every_sign(self):
        letters = "abcdefghijklmnopqrstuvwxyz"
        for code in [10] + list(range(32, 127)):
            sign = chr(code)
            self.assertIs(is_kinds(kinds_named("A" + sign)), sign in letters + letters.upper() + "0123456789", sign)
            self.assertIs(is_kinds(kinds_named(sign)), sign in letters.upper(), sign)
            self.assertIs(is_program(with_function(sign)), sign in letters and sign not in "rt", sign)


if __name__ == "__main__":
    unittest.main()
