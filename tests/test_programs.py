"""[5]: the form of programs."""

import unittest

from justfreed.checks import check, checked, registers
from justfreed.errors import BadProgram
from justfreed.programs import is_program
from justfreed.running import run
from tests.samples import LIST_KINDS, LIST_PROGRAM, MANY_KINDS, ODD, OwnList, part_at, paths, program_of, replaced

MOST = 10 ** 12

# Right by form, and by form alone.
ROWS = (
    ("number", 3, -17, 4),
    ("add", 3, 4, 5, 6),
    ("sub", 3, 4, 5, 6),
    ("less", 4, 5, 6, 7),
    ("make", 3, "Nomaker", (4, 5, 6, 6), 7),
    ("match", 3, (((4, 5), 6), ((), 7), ((4, 4, 3, 2), 59))),
    ("call", 3, "nofun", (0, 1, 2, 3, 3, 2, 1, 0), 7),
    ("give", 3),
)
# For each sort of row what its slots are.
SLOTS = {
    "number": ("register", "number", "next"),
    "add": ("register", "register", "register", "next"),
    "sub": ("register", "register", "register", "next"),
    "less": ("register", "register", "next", "next"),
    "make": ("register", "high", "four", "next"),
    "match": ("register", "branches"),
    "call": ("register", "low", "eight", "next"),
    "give": ("register",),
}
RIGHT = {
    "register": (0, 1, 30, 31),
    "next": (0, 1, 58, 59),
    "number": (0, 1, -1, MOST, -MOST),
    "high": ("A", "R1", "Abcdefghij"),
    "low": ("a", "ra", "abcdefghij"),
    "four": ((), (0,), (31,), (0, 31, 0), (5, 5, 5, 5)),
    "eight": ((), (0,), (31,), (5, 5, 5, 5, 5), (0, 31, 0, 1, 2, 3, 4, 5)),
    "branches": ((((), 0),), (((31,), 59),), (((0, 1, 2, 3), 0),) * 6, (((7, 7), 3), ((), 0))),
}
WRONG = {
    "register": (-1, 32, 33, 10 ** 20, True, False, "1", "r1", (), (1,), [1], None),
    "next": (-1, 60, 61, 10 ** 20, True, False, "1", (), (1,), [1], None),
    "number": (MOST + 1, -MOST - 1, 10 ** 30, True, False, "1", "number", (), (1,), None),
    "high": ("a", "r1", "", "Abcdefghijk", "number", 1, (), ("A",), None),
    "low": ("A", "r1", "", "abcdefghijk", "give", 1, (), ("a",), None),
    "four": ((0,) * 5, (-1,), (32,), (0, 32), (32, 0), (0, True), (True,), (False, 0), [], [0], [0, 1], ((),), (("a",),),
             ("a",), 0, None, "", "ab", {}, {0: 1}),
    "eight": ((0,) * 9, (-1,), (32,), (0,) * 7 + (32,), (0,) * 7 + (True,), (0, -1), [], [0], [0, 1], ((),), ("a",), 0,
              None, "", {}),
    "branches": ((), (((), 0),) * 7, [((), 0)], (((), -1),), (((), 60),), (((), 0), ((), 60)), (((), True),), (((0,) * 5, 0),),
                 (((32,), 0),), (((-1,), 0),), (((True,), 0),), (([], 0),), (([0], 0),), ([(), 0],), ((),), (((),),),
                 (((), 0, 0),), ((0, ()),), (((), "0"),), (((), None),), ((None, 0),), ((0, 0),), ((), 0), None, 0, "",
                 (((), 0), ()), (((), 0), None), (((), 0), [(), 0])),
}
OTHER_WORDS = ("", "Number", "NUMBER", "mul", "move", "goto", "hold", "drop", "free", "addd", "ad", " add", "Give", "case",
               "less ", "numbers", b"give", None, 0, True, ("give",), ["give"], ("number",))


def with_row(row):
    return program_of(row)


class RowsTest(unittest.TestCase):
    def judge(self, row, expected):
        self.assertIs(is_program(with_row(row)), expected, row[0] if type(row) is tuple and row else None)
        self.assertIs(is_program(program_of(("give", 0), row, ("give", 1))), expected)

    def test_each_sort_of_row_by_form_alone(self):
        for row in ROWS:
            self.judge(row, True)
        self.assertIs(is_program(program_of(*ROWS)), True)
        self.assertIs(is_program(thing=program_of(*ROWS)), True)

    def test_each_slot_at_its_bounds(self):
        for row in ROWS:
            for at, slot in enumerate(SLOTS[row[0]], 1):
                for part in RIGHT[slot]:
                    self.judge(row[:at] + (part,) + row[at + 1:], True)

    def test_each_slot_beyond_its_bounds(self):
        for row in ROWS:
            for at, slot in enumerate(SLOTS[row[0]], 1):
                for part in WRONG[slot]:
                    self.judge(row[:at] + (part,) + row[at + 1:], False)

    def test_odd_objects_in_each_slot(self):
        for row in ROWS:
            for path in paths(row):
                for odd in ODD:
                    self.judge(replaced(row, path, odd), False)

    def test_a_slot_more_or_less(self):
        for row in ROWS:
            self.judge(row + (0,), False)
            self.judge(row + ((),), False)
            self.judge(row + (None,), False)
            self.judge(row + row[-1:], False)
            self.judge(row[:-1], False)
            self.judge(row[1:], False)
            self.judge(row[:1], False)
            for at in range(1, len(row)):
                self.judge(row[:at] + row[at + 1:], False)
        self.judge((), False)

    def test_slots_in_another_order(self):
        for row in ROWS[4:7]:
            self.judge(row[:1] + row[1:][::-1], False)
        self.judge(("make", "Cons", 0, (), 1), False)
        self.judge(("call", 0, (), "f", 1), False)

    def test_other_words(self):
        for row in ROWS:
            for word in OTHER_WORDS:
                self.judge((word,) + row[1:], False)

    def test_words_of_other_rows(self):
        for row in ROWS:
            for word in SLOTS:
                alike = {"add": 1, "sub": 1, "less": 2}
                if word in alike and row[0] in ("add", "sub", "less"):
                    self.judge((word,) + row[1:], True)
                elif word == "number" and row[0] == "give":
                    self.judge((word,) + row[1:], False)
                else:
                    self.judge((word,) + row[1:], word == row[0])

    def test_lists_for_tuples(self):
        for row in ROWS:
            for path in paths(row):
                part = part_at(row, path)
                if type(part) is tuple:
                    self.judge(replaced(row, path, list(part)), False)
                    self.judge(replaced(row, path, OwnList(part)), False)

    def test_truths_for_integers(self):
        for row in ROWS:
            for path in paths(row):
                if type(part_at(row, path)) is int:
                    self.judge(replaced(row, path, 0), True)
                    self.judge(replaced(row, path, 1), True)
                    self.judge(replaced(row, path, False), False)
                    self.judge(replaced(row, path, True), False)


class ProgramsTest(unittest.TestCase):
    def refuse(self, thing, *told):
        self.assertIs(is_program(thing), False, told)
        for wanting in (check, checked, registers):
            with self.assertRaises(BadProgram, msg=told):
                wanting(thing)
        with self.assertRaises(BadProgram, msg=told):
            run(thing, "rev", (), 0)

    def test_right_programs(self):
        self.assertIs(is_program(LIST_PROGRAM), True)
        self.assertIs(is_program((MANY_KINDS, LIST_PROGRAM[1])), True)

    def test_right_by_form_alone(self):
        for program in (
                program_of(("give", 31)),
                program_of(("number", 0, 0, 59)),
                program_of(("give", 0), name="same", others=(("same", (), "number", (("give", 0),)),)),
                program_of(("give", 0), result="Nokind"),
                program_of(("give", 0), params=("Nokind", "Cons")),
                program_of(("match", 0, (((1, 1), 0),))),
                program_of(("make", 0, "Nil", (0, 0, 0, 0), 0)),
                program_of(("call", 0, "f", (1, 2, 3), 0)),
                program_of(("less", 0, 1, 0, 0), ("less", 2, 2, 1, 1))):
            self.assertIs(is_program(program), True)

    def test_how_many_functions(self):
        function = LIST_PROGRAM[1][0]
        for many in range(15):
            self.assertIs(is_program((LIST_KINDS, (function,) * many)), 1 <= many <= 12, many)

    def test_how_many_params(self):
        for many in range(12):
            for word in ("number", "List", "Nokind"):
                self.assertIs(is_program(program_of(("give", 0), params=(word,) * many)), many <= 8, many)

    def test_how_many_rows(self):
        for many in (0, 1, 2, 59, 60, 61, 100):
            self.assertIs(is_program(program_of(*[("give", 0)] * many)), 1 <= many <= 60, many)

    def test_params_and_result(self):
        for word in ("number", "List", "Nokind", "R", "R1", "Cons"):
            self.assertIs(is_program(program_of(("give", 0), params=(word,), result=word)), True)
        for word in ("list", "r1", "Numbers1234", "", 0, None, (), ("List",)):
            self.refuse(program_of(("give", 0), params=(word,)))
            self.refuse(program_of(("give", 0), params=("number", word)))
            self.refuse(program_of(("give", 0), result=word))

    def test_kinds_are_kinds(self):
        for kinds in ((), LIST_KINDS * 2, (("List", (("Cons", ("Nokind",)),)),), LIST_KINDS[0], (("List", ()),)):
            self.refuse((kinds, LIST_PROGRAM[1]))

    def test_odd_objects_in_each_slot(self):
        small = (LIST_KINDS, LIST_PROGRAM[1][:2])
        for path in paths(small):
            for odd in ODD:
                self.assertIs(is_program(replaced(small, path, odd)), False, path)
            for odd in (None, True, False, [], "", 10 ** 20):
                self.refuse(replaced(small, path, odd), path)

    def test_lists_for_tuples(self):
        for path in paths(LIST_PROGRAM):
            part = part_at(LIST_PROGRAM, path)
            if type(part) is tuple:
                self.refuse(replaced(LIST_PROGRAM, path, list(part)), path)
                self.refuse(replaced(LIST_PROGRAM, path, OwnList(part)), path)

    def test_pairs_and_functions_have_their_lengths(self):
        for path in ((), (1, 0), (1, 1)):
            part = part_at(LIST_PROGRAM, path)
            for wrong in (part[:-1], part[1:], part + part[-1:], part + ((),), part[::-1], part + (None,), ()):
                self.refuse(replaced(LIST_PROGRAM, path, wrong), path)
        self.refuse((LIST_KINDS,))
        self.refuse(LIST_KINDS)
        self.refuse(LIST_PROGRAM[1])
        self.refuse((LIST_KINDS, ()))
        self.refuse((LIST_KINDS, LIST_PROGRAM[1][0]))

    def test_functions_names_are_low(self):
        for name in ("F", "r", "t1", "number", "", "abcdefghijk", None, 1):
            self.refuse(program_of(("give", 0), name=name))

    def test_odd_objects(self):
        for odd in ODD + ((), ((), ()), (LIST_KINDS, None), [LIST_KINDS, LIST_PROGRAM[1]], 0, 1):
            self.refuse(odd)


if __name__ == "__main__":
    unittest.main()
