"""[22]: what is there behind so many rows."""

import unittest

from justfreed.judging import judge
from justfreed.machine import drive, look
from justfreed.placing import placed
from justfreed.rooms import reusing
from tests.placings import bare, drop, free, hold, placing_of
from tests.samples import CALLS, DEEP, KEEP, LIST_PROGRAM, PAIR, SIZES, TAIL, cons, program_of

ALL = 100000
NIL = ("Nil",)


def num(number):
    return ("number", number)


def cell(serial):
    return ("cell", serial)


class LookTest(unittest.TestCase):
    def test_arguments_are_there_first(self):
        # Cells get their serials argument by argument, in the order of the sayings.
        program = program_of(("give", 0), params=("List", "number", "List", "S"), result="List", kinds=(
            ("List", (("Nil", ()), ("Cons", ("number", "List")))),
            ("S", (("Leaf", ()), ("Node", ("S", "number", "S"))))))
        args = (cons([5, 6]), -3, NIL, ("Node", "Node", "Leaf", 1, "Leaf", 2, "Leaf"))
        calls = (("f", 0, ((0, cell(0)), (1, num(-3)), (2, cell(3)), (3, cell(4))), ()),)
        cells = ((0, 1, "Cons", (num(5), cell(1))), (1, 1, "Cons", (num(6), cell(2))), (2, 1, "Nil", ()), (3, 1, "Nil", ()),
                 (4, 1, "Node", (cell(5), num(2), cell(8))), (5, 1, "Node", (cell(6), num(1), cell(7))), (6, 1, "Leaf", ()),
                 (7, 1, "Leaf", ()), (8, 1, "Leaf", ()))
        self.assertEqual(look(program, bare(program), "f", args, 0), (calls, cells))

    def test_no_arguments(self):
        program = program_of(("number", 5, 7, 1), ("give", 5))
        self.assertEqual(look(program, bare(program), "f", (), 0), ((("f", 0, (), ()),), ()))
        self.assertEqual(look(program, bare(program), "f", (), 1), ((("f", 1, ((5, num(7)),), ()),), ()))
        self.assertIsNone(look(program, bare(program), "f", (), 2))
        self.assertIsNone(look(program, bare(program), "f", (), 3))

    def test_behind_a_row_count_of_0_the_entrys_deeds_are_done(self):
        placing = placing_of(KEEP, {("entry",): hold(0, 0), ("before", 0): hold(0)})
        self.assertEqual(look(KEEP, placing, "f", (NIL, 0), 0),
                         ((("f", 0, ((0, cell(0)), (1, num(0))), ()),), ((0, 3, "Nil", ()),)))
        self.assertIsNone(look(KEEP, placing_of(KEEP, {("entry",): hold(9)}), "f", (NIL, 0), 0))

    def test_behind_a_row_its_edges_deeds_are_done(self):
        placing = placing_of(KEEP, {("before", 0): hold(0), ("edge", 0, 0): hold(0), ("before", 1): hold(0)})
        self.assertEqual(look(KEEP, placing, "f", (NIL, 0), 1),
                         ((("f", 1, ((0, cell(0)), (1, num(7))), ()),), ((0, 3, "Nil", ()),)))

    def test_match(self):
        self.assertEqual(look(TAIL, bare(TAIL), "f", (cons([7]),), 1),
                         ((("f", 2, ((0, cell(0)), (1, num(7)), (2, cell(1))), ()),), ((1, 1, "Nil", ()),)))
        # The cell went, and the register has it still.
        placing = placing_of(TAIL, {("entry",): hold(0)})
        self.assertEqual(look(TAIL, placing, "f", (cons([7]),), 1), (
            (("f", 2, ((0, cell(0)), (1, num(7)), (2, cell(1))), ()),), ((0, 1, "Cons", (num(7), cell(1))), (1, 2, "Nil", ()))))

    def test_make(self):
        self.assertEqual(look(PAIR, bare(PAIR), "f", (("S1", 4), ("S0",)), 1), (
            (("f", 1, ((0, cell(0)), (1, cell(1)), (2, cell(2))), ()),),
            ((0, 1, "S1", (num(4),)), (1, 1, "S0", ()), (2, 1, "T2", (cell(0), cell(1))))))

    def test_let_go(self):
        placing = placing_of(PAIR, {("entry",): hold(1), ("edge", 0, 0): drop(2)})
        self.assertEqual(look(PAIR, placing, "f", (("S1", 4), ("S0",)), 1), (
            (("f", 1, ((0, cell(0)), (1, cell(1)), (2, cell(2))), ()),), ((1, 1, "S0", ()),)))

    def test_tokens(self):
        placing = placing_of(SIZES, {}, {at: 4 for at in range(6)})
        for size in range(5):
            tree = (f"S{size}",) + (7,) * size
            registers = tuple((at, num(7) if at else cell(0)) for at in range(size + 1))
            self.assertEqual(look(SIZES, placing, "f", (tree,), 1), ((("f", size + 1, registers, ((4, size),)),), ()))
            self.assertEqual(look(SIZES, placing, "f", (tree,), 2), (
                (("f", 6, ((0, cell(1)),) + registers[1:], ()),), ((1, 1, f"S{size}", (num(7),) * size),)))
        empty = placing_of(SIZES, {("entry",): hold(0)}, {0: 4})
        calls, cells = look(SIZES, empty, "f", (("S0",),), 1)
        self.assertEqual((calls, cells), ((("f", 1, ((0, cell(0)),), ()),), ((0, 1, "S0", ()),)))
        given_back = placing_of(SIZES, {("edge", 0, 3): free(4, 3)}, {0: 4})
        self.assertEqual(look(SIZES, given_back, "f", (("S3", 1, 1, 1),), 1)[0][0][3], ())

    def test_tokens_are_ascending(self):
        rows = [("match", at, (((), 3), ((at + 10, at + 1), at + 1))) for at in range(3)]
        program = program_of(*rows, ("number", 9, 0, 4), ("give", 9), params=("List",), result="number")
        placing = placing_of(program, {}, {0: 15, 1: 0, 2: 7})
        calls, _ = look(program, placing, "f", (cons([1, 2, 3, 4]),), 3)
        self.assertEqual(calls[0][3], ((0, 2), (7, 2), (15, 2)))

    def test_calls_that_wait(self):
        args = (cons([1, 2]),)
        calls, cells = look(LIST_PROGRAM, placed(LIST_PROGRAM), "sum", args, 4)
        self.assertEqual(calls, (
            ("sum", 1, ((0, cell(0)), (1, num(1)), (2, cell(1))), ()), ("sum", 1, ((0, cell(1)), (1, num(2)), (2, cell(2))), ()),
            ("sum", 0, ((0, cell(2)),), ())))
        self.assertEqual(cells, ((2, 1, "Nil", ()),))
        calls, cells = look(LIST_PROGRAM, placed(LIST_PROGRAM), "sum", args, 7)
        self.assertEqual(calls, (
            ("sum", 1, ((0, cell(0)), (1, num(1)), (2, cell(1))), ()),
            ("sum", 3, ((0, cell(1)), (1, num(2)), (2, cell(2)), (3, num(0))), ())))
        self.assertEqual(cells, ())

    def test_a_calls_edges_deeds_are_done_with_the_give(self):
        placing = placing_of(CALLS, {("edge", 0, 0): hold(1)})
        self.assertEqual(look(CALLS, placing, "f", (NIL,), 2), (
            (("f", 0, ((0, cell(0)),), ()), ("g", 1, ((0, cell(0)), (1, num(0))), ())), ((0, 1, "Nil", ()),)))
        self.assertEqual(look(CALLS, placing, "f", (NIL,), 3), (
            (("f", 1, ((0, cell(0)), (1, cell(0))), ()),), ((0, 2, "Nil", ()),)))
        self.assertIsNone(look(CALLS, placing, "f", (NIL,), 4))

    def test_a_called_entrys_deeds_are_done_with_the_call(self):
        placing = placing_of(CALLS, {("entry",): hold(0)}, index=1)
        self.assertEqual(look(CALLS, placing, "f", (NIL,), 1), (
            (("f", 0, ((0, cell(0)),), ()), ("g", 0, ((0, cell(0)),), ())), ((0, 2, "Nil", ()),)))

    def test_none_behind_the_end_and_behind_faults(self):
        for placing, first in ((bare(TAIL), 2), (placing_of(TAIL, {("edge", 0, 1): drop(0)}), 1),
                               (placing_of(TAIL, {("before", 0): drop(9)}), 1), (placing_of(TAIL, {("before", 2): drop(9)}), 2),
                               (placing_of(TAIL, {("entry",): drop(9)}), 0)):
            for rows in range(5):
                told = look(TAIL, placing, "f", (cons([3]),), rows)
                self.assertEqual(told is None, rows >= first, (placing, rows))
                self.assertEqual(told is None, drive(TAIL, placing, "f", (cons([3]),), rows)[0] != "on")
        # The fault comes with the entry's deeds of a called function, or with those of a waiting call's edge.
        for placing, first in ((placing_of(CALLS, {("entry",): drop(9)}, index=1), 1),
                               (placing_of(CALLS, {("edge", 0, 0): drop(9)}), 3)):
            for rows in range(6):
                self.assertEqual(look(CALLS, placing, "f", (NIL,), rows) is None, rows >= first)

    def test_cells_that_went_among_registers(self):
        placing = placing_of(KEEP, {("before", 0): drop(0)})
        self.assertEqual(look(KEEP, placing, "f", (cons([4]), 5), 1), ((("f", 1, ((0, cell(0)), (1, num(7))), ()),), ()))

    def test_a_cell_whose_inner_cell_went(self):
        placing = placing_of(PAIR, {("edge", 0, 0): drop(0)})
        calls, cells = look(PAIR, placing, "f", (("S1", 4), ("S0",)), 1)
        self.assertEqual(calls[0][2], ((0, cell(0)), (1, cell(1)), (2, cell(2))))
        self.assertEqual(cells, ((1, 1, "S0", ()), (2, 1, "T2", (cell(0), cell(1)))))

    def test_rooms_used_anew_have_new_serials(self):
        args = (cons([1, 2]), cons([3]))
        calls, cells = look(LIST_PROGRAM, reusing(LIST_PROGRAM), "rev", args, 2)
        self.assertEqual(calls, (("rev", 3, ((0, cell(0)), (1, cell(5)), (3, num(1)), (4, cell(1))), ()),))
        self.assertEqual(cells, ((1, 1, "Cons", (num(2), cell(2))), (2, 1, "Nil", ()), (3, 1, "Cons", (num(3), cell(4))),
                                 (4, 1, "Nil", ()), (5, 1, "Cons", (num(1), cell(3)))))

    def test_calls_thousands_deep(self):
        calls, cells = look(DEEP, placed(DEEP), "f", (NIL, 5000), 5 * 4000)
        self.assertEqual(len(calls), 4001)
        self.assertEqual(calls[3999][:2], ("f", 4))
        self.assertEqual(calls[4000], ("f", 0, ((0, cell(0)), (1, num(1000))), ()))
        self.assertEqual(cells, ((0, 1, "Nil", ()),))

    def test_the_longest_look(self):
        program = program_of(("call", 0, "f", (0,), 1), ("give", 0), params=("List",), result="List")
        calls, cells = look(program, placed(program), "f", (NIL,), ALL)
        self.assertEqual(len(calls), ALL + 1)
        self.assertEqual((calls[ALL], cells), (("f", 0, ((0, cell(0)),), ()), ((0, 1, "Nil", ()),)))

    def test_right_and_wrong_placings(self):
        falls = placing_of(TAIL, {("before", 2): drop(2)})
        self.assertEqual(judge(TAIL, falls)[0], "wrong")
        self.assertEqual(look(TAIL, falls, "f", (cons([3]),), 1), look(TAIL, placed(TAIL), "f", (cons([3]),), 1))


if __name__ == "__main__":
    unittest.main()
