"""Greatest programs and longest runs, in a time that can be waited for."""

import time
import unittest

from justfreed.checks import check, checked, registers
from justfreed.programs import is_kinds, is_program, is_tree
from justfreed.running import run
from tests.samples import LIST_PROGRAM, program_of

ALL = 100000
# Far above what is needed, so that a busy machine does not make the tests fail.
SECONDS = 60

KINDS = tuple(
    (f"Kind{kind}", tuple(
        (f"Make{kind}{at}", (("number",) * 4 if at == 0 else tuple(f"Kind{(kind + at + step) % 6}" for step in range(4))))
        for at in range(6)))
    for kind in range(6))
PARAMS = tuple(f"Kind{at % 6}" for at in range(8))


def setting_of(row, branch):
    """Four registers for a branch; two branches of a row agree on none of them, so that nothing is left behind it."""
    return tuple(8 + (row + branch + 5 * step) % 24 for step in range(4))


def match_row(row, away):
    """A match with six branches, the last one going away."""
    return ("match", row % 8, tuple((setting_of(row, at), away if at == 5 else row + 1) for at in range(6)))


def great_function(index, away):
    """Sixty rows: matches of six branches with four fields each, and at the end one call and one give."""
    rows = tuple(match_row(row, away) for row in range(58))
    args = tuple(range(8))
    return (f"f{index}", PARAMS, PARAMS[0],
            rows + (("call", 9, f"f{(index + 1) % 12}", args, 59), ("give", 9)))


def great_program(away):
    return (KINDS, tuple(great_function(index, away) for index in range(12)))


def leaf(kind):
    return (f"Make{kind % 6}0", 1, 2, 3, 4)


class GreatestTest(unittest.TestCase):
    def setUp(self):
        self.begin = time.monotonic()

    def tearDown(self):
        self.assertLess(time.monotonic() - self.begin, SECONDS)

    def test_form(self):
        program = great_program(0)
        self.assertIs(is_kinds(KINDS), True)
        self.assertIs(is_program(program), True)
        self.assertEqual([len(program[1]), len(program[1][11][1]), len(program[1][0][3])], [12, 8, 60])
        self.assertEqual([len(KINDS), len(KINDS[5][1]), len(KINDS[3][1][5][1])], [6, 6, 4])

    def test_trees_of_the_greatest_kinds(self):
        wide = ("Make01",) + leaf(1) + leaf(2) + leaf(3) + leaf(4)
        self.assertIs(is_tree(KINDS, "Kind0", wide), True)
        self.assertIs(is_tree(KINDS, "Kind0", wide[:-1]), False)

    def test_check_and_registers(self):
        # Branches that go back to row 0, on to the next row, or to the end.
        for away in (0, 1, 30, 57, 58, 59):
            program = great_program(away)
            if away == 59:
                self.assertEqual(check(program), ("unset", "f0", 59))
                continue
            self.assertIsNone(check(program))
            self.assertIsNone(checked(program))
            has = registers(program)
            self.assertEqual([len(has), len(has[0]), len(has[11])], [12, 60, 60])
            for rows in has:
                for row in rows[:59]:
                    self.assertEqual(row[:8], tuple(enumerate(PARAMS)))
                self.assertIn((9, "Kind0"), rows[59])

    def test_wrong_in_the_last_row_of_the_last_function(self):
        kinds, functions = great_program(0)
        name, params, result, rows = functions[11]
        last = functions[:11] + ((name, params, "number", rows),)
        self.assertEqual(check((kinds, last)), ("unfit", "f10", 59))
        last = functions[:11] + ((name, params, result, rows[:59] + (("give", 1),)),)
        self.assertEqual(check((kinds, last)), ("unfit", "f11", 59))
        last = functions[:11] + (("f10", params, result, rows),)
        self.assertEqual(check((kinds, last)), ("double", "f10", 0))

    def test_run(self):
        args = tuple(leaf(at) for at in range(8))
        program = great_program(0)
        for most in (0, 1, 59, ALL):
            self.assertEqual(run(program, "f0", args, most), ("on",))
        kinds, functions = program
        name, params, result, rows = functions[11]
        ending = functions[:11] + ((name, params, result, rows[:58] + (("make", 9, "Make00", (24, 25, 26, 27), 59),) + rows[59:]),)
        self.assertEqual(check((kinds, ending)), ("unset", "f11", 58))
        # The last function makes its own numbers, as no register but the params has anything behind the matches.
        numbers = tuple(("number", 8 + at, at, 55 + at) for at in range(4))
        ending = functions[:11] + ((name, params, result,
                                    rows[:54] + numbers + (("make", 9, "Make00", (8, 9, 10, 11), 59), ("give", 9))),)
        self.assertIsNone(check((kinds, ending)))
        self.assertEqual(run((kinds, ending), "f0", args, ALL), ("ended", ("Make00", 0, 1, 2, 3)))
        self.assertEqual(run((kinds, ending), "f0", args, 12 * 60), ("ended", ("Make00", 0, 1, 2, 3)))
        self.assertEqual(run((kinds, ending), "f0", args, 12 * 60 - 1), ("on",))

    def test_registers_that_are_lost_one_by_one(self):
        # Rows 0 to 28 lead on, or to a row of their own that sets one register and leads back to row 0.
        ahead = [("less", 0, 0, at + 1, 30 + at) for at in range(29)]
        back = [("make", 31 - at, "Nil", (), 0) for at in range(29)]
        setting = [("number", 31 - at, 0, at + 1) for at in range(29)]
        for rows in (ahead + [("give", 0)] + back, setting[:28] + [("less", 0, 0, 29, 29), ("give", 0)]):
            functions = tuple((f"f{at}", ("number",) * 8, "number", tuple(rows)) for at in range(12))
            program = (LIST_PROGRAM[0], functions)
            self.assertIsNone(check(program))
            has = registers(program)[11]
            self.assertEqual(len(has), len(rows))
            left = 3 if rows[0][0] == "less" else 8
            self.assertEqual(has[0], tuple((at, "number") for at in range(left)))

    def test_long_runs(self):
        for rows, params, args in (
                ((("less", 0, 0, 1, 0), ("give", 0)), ("number",), (1,)),
                ((("add", 0, 0, 0, 1), ("less", 1, 1, 2, 0), ("give", 0)), ("number", "number"), (1, 0)),
                ((("make", 0, "Cons", (1, 0), 1), ("less", 1, 1, 2, 0), ("give", 1)), ("List", "number"), (("Nil",), 0)),
                ((("make", 2, "Cons", (1, 0), 1), ("match", 2, (((), 2), ((3, 4), 3))), ("give", 1), ("number", 2, 0, 4),
                  ("number", 4, 0, 0)), ("List", "number"), (("Nil",), 0)),
                ((("call", 1, "f", (0,), 1), ("give", 0)), ("number",), (1,))):
            program = program_of(*rows, params=params)
            self.assertIsNone(check(program))
            self.assertEqual(run(program, "f", args, ALL), ("on",))


if __name__ == "__main__":
    unittest.main()
