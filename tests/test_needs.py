"""[9]: the registers that are needed, and where they are used first."""

import unittest

from justfreed.errors import BadName, BadProgram, BadRegister, BadRow, NotChecked
from justfreed.ways import needs, use_ahead
from tests.samples import LIST_KINDS, LIST_PROGRAM, MANY_KINDS, ODD, program_of


class NeedsTest(unittest.TestCase):
    def needed(self, rows, *expected, params=(), result="number", kinds=LIST_KINDS, others=()):
        program = program_of(*rows, params=params, result=result, kinds=kinds, others=others)
        result = needs(program, "f")
        self.assertIs(type(result), tuple)
        self.assertEqual([type(part) for part in result], [tuple] * len(rows))
        self.assertEqual([type(r) for part in result for r in part], [int] * sum(map(len, result)))
        self.assertEqual(result, expected)
        return program

    def test_a_give(self):
        self.needed((("give", 0),), (0,), params=("List",), result="List")
        self.needed((("give", 1),), (1,), params=("List", "List"), result="List")

    def test_numbers_are_no_use(self):
        self.needed((("give", 0),), (), params=("number",))
        self.needed((("add", 1, 0, 0, 1), ("sub", 1, 1, 0, 2), ("less", 1, 0, 3, 3), ("give", 1)), (), (), (), (),
                    params=("number",))
        self.needed((("make", 2, "Cons", (0, 1), 1), ("give", 2)), (1,), (2,), params=("number", "List"), result="List")
        self.needed((("call", 2, "f", (0, 1), 1), ("give", 2)), (1,), (2,), params=("number", "List"), result="List")
        self.needed((("make", 2, "One", (0,), 1), ("give", 2)), (), (2,), params=("number",), result="Tree",
                    kinds=MANY_KINDS)

    def test_each_sort_of_use(self):
        self.needed((("match", 0, (((), 1), ((2, 3), 1))), ("number", 2, 0, 2), ("give", 2)), (0,), (), (),
                    params=("List",))
        self.needed((("make", 4, "Node", (0, 3, 1), 1), ("give", 4)), (0, 1), (4,), params=("Tree", "Tree", "Tree", "number"),
                    result="Tree", kinds=MANY_KINDS)
        self.needed((("call", 4, "f", (1, 0, 2), 1), ("give", 4)), (0, 1, 2), (4,), params=("List",) * 3, result="List")

    def test_ascending_without_duplicates(self):
        self.needed((("call", 9, "f", (3, 1, 3, 0), 1), ("give", 9)), (0, 1, 3), (9,), params=("List",) * 4, result="List")

    def test_ascending_whatever_the_registers(self):
        params = ("number", "List") + ("number",) * 5 + ("List",)
        rows = (("make", 8, "Nil", (), 1), ("make", 16, "Nil", (), 2), ("call", 17, "g", (16, 1, 8, 7), 3), ("give", 17))
        self.needed(rows, (1, 7), (1, 7, 8), (1, 7, 8, 16), (17,), params=params, result="List",
                    others=(("g", ("List",) * 4, "List", (("give", 0),)),))
        rows = (("make", 8, "Nil", (), 1), ("call", 9, "g", (8, 1), 2), ("give", 9))
        self.needed(rows, (1,), (1, 8), (9,), params=params[:2], result="List",
                    others=(("g", ("List", "List"), "List", (("give", 0),)),))
        rows = (("make", 8, "Nil", (), 1), ("call", 1, "g", (8, 1), 2), ("give", 1))
        self.needed(rows, (1,), (1, 8), (1,), params=params[:2], result="List",
                    others=(("g", ("List", "List"), "List", (("give", 0),)),))

    def test_set_ahead_of_a_use(self):
        rows = (("make", 0, "Nil", (), 1), ("give", 0))
        self.needed(rows, (), (0,), params=("List",), result="List")
        rows = (("make", 1, "Nil", (), 1), ("call", 2, "f", (0,), 2), ("give", 1))
        self.needed(rows, (0,), (0, 1), (1,), params=("List",), result="List")
        rows = (("call", 1, "g", (), 1), ("give", 1))
        self.needed(rows, (), (1,), params=("List", "List"), result="List",
                    others=(("g", (), "List", (("make", 0, "Nil", (), 1), ("give", 0))),))

    def test_set_to_a_number_ahead_of_a_use(self):
        # Registers that are set to numbers are not needed, whatever they had.
        for row in (("number", 0, 5, 1), ("add", 0, 1, 1, 1), ("sub", 0, 1, 1, 1)):
            self.needed((row, ("give", 0)), (), (), params=("List", "number"))
            self.needed((row, ("make", 0, "Nil", (), 2), ("give", 0)), (), (), (0,), params=("List", "number"), result="List")

    def test_used_and_set_by_the_same_row(self):
        self.needed((("make", 0, "Cons", (1, 0), 1), ("give", 0)), (0,), (0,), params=("List", "number"), result="List")
        self.needed((("call", 0, "f", (0,), 1), ("give", 0)), (0,), (0,), params=("List",), result="List")

    def test_round_a_loop(self):
        rows = (("less", 0, 0, 1, 3), ("make", 2, "Nil", (), 2), ("add", 0, 0, 0, 0), ("give", 1))
        self.needed(rows, (1,), (1,), (1,), (1,), params=("number", "List"), result="List")
        # Register 1 is used round the loop alone, behind row 0, ahead of being set there.
        rows = (("less", 0, 0, 1, 3), ("make", 1, "Cons", (0, 1), 2), ("add", 0, 0, 0, 0), ("number", 1, 0, 4), ("give", 1))
        self.needed(rows, (1,), (1,), (1,), (), (), params=("number", "List"))

    def test_used_behind_a_loop_that_sets(self):
        rows = (("make", 1, "Nil", (), 1), ("less", 0, 0, 0, 2), ("give", 1))
        self.needed(rows, (), (1,), (1,), params=("number", "List"), result="List")

    def test_used_on_one_branch_alone(self):
        rows = (("match", 0, (((), 1), ((3, 4), 2))), ("give", 1), ("give", 4))
        self.needed(rows, (0, 1), (1,), (4,), params=("List", "List"), result="List")
        rows = (("less", 2, 2, 1, 2), ("give", 1), ("give", 0))
        self.needed(rows, (0, 1), (1,), (0,), params=("List", "List", "number"), result="List")

    def test_a_match_sets_on_its_branches_alone(self):
        # Register 4 is set on the second branch, and used behind both.
        rows = (("match", 0, (((), 1), ((3, 4), 3))), ("make", 4, "Nil", (), 2), ("number", 3, 0, 3), ("give", 4))
        self.needed(rows, (0,), (), (4,), (4,), params=("List",), result="List")
        # Two branches lead to one row; only one of them leads on from what was there ahead of the match.
        rows = (("number", 3, 0, 1), ("make", 5, "Nil", (), 2), ("match", 0, (((), 4), ((3, 6), 3))),
                ("number", 6, 0, 4), ("give", 5))
        self.needed(rows, (0,), (0,), (0, 5), (5,), (5,), params=("List",), result="List")

    def test_round_a_loop_to_the_same_row(self):
        rows = (("call", 3, "f", (0, 1), 1), ("less", 1, 1, 0, 2), ("give", 1))
        self.needed(rows, (0,), (0,), (), params=("List", "number"))

    def test_each_function(self):
        for name, expected in (("rev", ((0, 1), (1, 4), (1,), (1, 4), (5,))), ("sum", ((0,), (2,), (), (), ())),
                               ("count", ((0,), (3,), (), (), (), (), ())), ("sumloop", ((0,), (), (5,), (0,), (5,))),
                               ("same", ((0,),))):
            self.assertEqual(needs(LIST_PROGRAM, name), expected)

    def test_wrong_arguments(self):
        for program in ODD + (LIST_PROGRAM[1],):
            with self.assertRaises(BadProgram):
                needs(program, "sum")
        with self.assertRaises(NotChecked):
            needs(program_of(("give", 0)), "f")
        for name in ODD + ("g", "Sum", ("sum",)):
            with self.assertRaises(BadName):
                needs(LIST_PROGRAM, name)

    def test_by_names(self):
        self.assertEqual(needs(name="same", program=LIST_PROGRAM), ((0,),))
        self.assertEqual(use_ahead(r=2, row=1, name="sum", program=LIST_PROGRAM), ())


class UseAheadTest(unittest.TestCase):
    def first(self, program, row, r, indexes, name="f"):
        result = use_ahead(program, name, row, r)
        self.assertEqual(result, indexes)
        if indexes is not None:
            self.assertIs(type(result), tuple)
            self.assertEqual([type(which) for which in result], [int] * len(result))
        self.assertIs(r in needs(program, name)[row], result is not None)

    def test_the_row_itself(self):
        program = program_of(("make", 0, "Cons", (1, 0), 1), ("give", 0), params=("List", "number"), result="List")
        self.first(program, 0, 0, ())
        self.first(program, 1, 0, ())
        self.first(LIST_PROGRAM, 0, 0, (), "sum")

    def test_further_on(self):
        self.first(LIST_PROGRAM, 0, 1, (0,), "rev")
        self.first(LIST_PROGRAM, 1, 4, (0,), "rev")
        self.first(LIST_PROGRAM, 3, 1, (), "rev")
        self.first(LIST_PROGRAM, 2, 5, (0,), "sumloop")
        self.first(LIST_PROGRAM, 0, 0, (0,), "sumloop")

    def test_the_first_one(self):
        # Both nexts of row 0 lead to a use of each register, by unlike many entries.
        program = program_of(
            ("less", 2, 2, 1, 2), ("less", 2, 2, 3, 4), ("less", 2, 2, 4, 3), ("give", 0), ("give", 1),
            params=("List", "List", "number"), result="List")
        self.first(program, 0, 0, (0, 0))
        self.first(program, 0, 1, (0, 1))
        self.first(program, 1, 1, (1,))
        self.first(program, 2, 0, (1,))
        self.first(program, 2, 1, (0,))
        program = program_of(
            ("less", 2, 2, 1, 2), ("less", 2, 2, 3, 3), ("give", 1), ("give", 0),
            params=("List", "List", "number"), result="List")
        self.first(program, 0, 0, (0, 0))
        self.first(program, 0, 1, (1,))

    def test_round_a_loop(self):
        # Row 0 alone uses register 0, and row 3 leads back to it.
        program = program_of(
            ("call", 3, "f", (0, 1), 1), ("number", 3, 0, 2), ("less", 1, 1, 4, 3), ("add", 1, 1, 1, 0), ("give", 1),
            params=("List", "number"))
        self.first(program, 0, 0, ())
        self.first(program, 1, 0, (0, 1, 0))
        self.first(program, 2, 0, (1, 0))
        self.first(program, 3, 0, (0,))
        self.first(program, 4, 0, None)

    def test_rows_that_set_it_are_not_passed(self):
        # The shorter way to the give passes row 1, which sets register 1.
        program = program_of(
            ("less", 0, 0, 1, 2), ("make", 1, "Nil", (), 4), ("number", 0, 0, 3), ("number", 0, 0, 4), ("give", 1),
            params=("number", "List"), result="List")
        self.first(program, 0, 1, (1, 0, 0))
        self.first(program, 1, 1, None)
        self.first(program, 4, 1, ())

    def test_branches_that_set_it_are_not_gone(self):
        # The second branch sets register 4, the first one leads to its use by two rows more.
        program = program_of(
            ("make", 4, "Nil", (), 1), ("number", 4, 0, 2), ("match", 0, (((), 4), ((5, 4), 3))), ("give", 4),
            ("make", 4, "Nil", (), 3), params=("List",), result="List")
        self.first(program, 2, 4, None)
        self.first(program, 0, 4, None)
        program = program_of(
            ("match", 0, (((), 1), ((5, 6), 3))), ("number", 5, 0, 2), ("number", 5, 0, 3), ("give", 1),
            params=("List", "List"), result="List")
        self.first(program, 0, 1, (1,))

    def test_not_needed(self):
        program = program_of(("number", 1, 0, 1), ("give", 1), params=("List", "List"))
        for r in (0, 1, 2, 31):
            self.first(program, 0, r, None)
            self.first(program, 1, r, None)
        self.first(LIST_PROGRAM, 2, 0, None, "rev")
        self.first(LIST_PROGRAM, 4, 1, None, "rev")

    def test_numbers(self):
        program = program_of(("add", 0, 0, 0, 1), ("make", 2, "Cons", (0, 1), 2), ("give", 2), params=("number", "List"),
                             result="List")
        self.first(program, 0, 0, None)
        self.first(program, 0, 1, (0,))

    def test_wrong_rows(self):
        for row in ODD + (5, -1, 59, 60, 10 ** 30, True, False, "0", (0,), [0]):
            with self.assertRaises(BadRow):
                use_ahead(LIST_PROGRAM, "rev", row, 0)

    def test_wrong_registers(self):
        for r in ODD + (-1, 32, 10 ** 30, True, False, "0", (0,), [0], "r0"):
            with self.assertRaises(BadRegister):
                use_ahead(LIST_PROGRAM, "rev", 0, r)
        self.assertIsNone(use_ahead(LIST_PROGRAM, "rev", 0, 31))

    def test_wrong_programs_and_names(self):
        for program in ODD + (LIST_PROGRAM[1],):
            with self.assertRaises(BadProgram):
                use_ahead(program, "rev", 0, 0)
        with self.assertRaises(NotChecked):
            use_ahead(program_of(("give", 0)), "f", 0, 0)
        for name in ODD + ("f", "Rev", ("rev",)):
            with self.assertRaises(BadName):
                use_ahead(LIST_PROGRAM, name, 0, 0)


if __name__ == "__main__":
    unittest.main()
