"""[6]: check and checked, each word at the place at which it stands first."""

import unittest

from justfreed.checks import check, checked, registers
from justfreed.errors import NotChecked
from justfreed.running import run
from tests.samples import (COUNT, LIST_KINDS, LIST_PROGRAM, MANY_KINDS, REVERSE, SAME, SUM, SUM_LOOP, program_of, replaced)

GIVE_ONE = (("number", 0, 1, 1), ("give", 0))
NIL = ("make", 0, "Nil", (), 1)


def named(name, params=(), result="number", rows=GIVE_ONE):
    return (name, params, result, rows)


class CheckTest(unittest.TestCase):
    def expect(self, program, what):
        self.assertEqual(check(program), what)
        self.assertEqual(check(program=program), what)
        if what is None:
            self.assertIsNone(checked(program))
            self.assertIsNone(checked(program=program))
            return
        for wanting in (checked, registers):
            with self.assertRaises(NotChecked) as context:
                wanting(program)
            self.assertEqual(context.exception.what, what)
        with self.assertRaises(NotChecked) as context:
            run(program, 0, 0, -1)
        self.assertEqual(context.exception.what, what)

    def rows(self, rows, word, row, params=(), result="number", kinds=MANY_KINDS):
        """Expects the word at the row, alone and behind and ahead of right functions."""
        what = None if word is None else (word, "f", row)
        program = program_of(*rows, params=params, result=result, kinds=kinds)
        self.expect(program, what)
        others = (named("g"), named("h", ("number", "number"), "number"))
        self.expect((kinds, program[1] + others), what)
        self.expect((kinds, others + program[1]), what)


class RightTest(CheckTest):
    def test_right_programs(self):
        self.expect(LIST_PROGRAM, None)
        for function in (REVERSE, SUM, COUNT, SAME):
            self.expect((LIST_KINDS, (function,)), None)
        self.expect((LIST_KINDS, (SUM_LOOP, SAME)), None)
        self.expect((LIST_KINDS, (SAME, SUM_LOOP)), None)

    def test_right_rows_of_each_sort(self):
        self.rows((("add", 2, 0, 1, 1), ("sub", 0, 2, 2, 2), ("less", 0, 1, 3, 4), ("give", 2), ("give", 1)), None, 0,
                  params=("number", "number"))
        self.rows((("make", 3, "Wide4", (0, 1, 2, 1), 1), ("give", 3)), None, 0, ("Wide", "number", "Tree"), "Wide")
        self.rows((("match", 0, (((1, 2, 3, 4), 1), ((), 1))), ("give", 0)), None, 0, ("Wide",), "Wide")

    def test_a_row_may_read_and_set_one_register(self):
        self.rows((("add", 0, 0, 0, 1), ("give", 0)), None, 0, ("number",))
        self.rows((("make", 0, "Node", (0, 1, 0), 1), ("give", 0)), None, 0, ("Tree", "number"), "Tree")
        self.rows((("call", 0, "f", (0,), 1), ("give", 0)), None, 0, ("Tree",), "Tree")

    def test_registers_change_what_they_have(self):
        self.rows((("number", 0, 1, 1), ("make", 0, "Nil", (), 2), ("number", 0, 2, 3), ("give", 0)), None, 0, ("Tree",))

    def test_a_branch_may_set_numbers_and_what_has_nothing(self):
        rows = (("match", 0, (((), 1), ((1, 2), 1))), ("give", 0))
        self.rows(rows, None, 0, ("List",), "List")
        self.rows(rows, None, 0, ("List", "number", "number"), "List")

    def test_branches_may_set_alike_registers(self):
        self.rows((("match", 0, (((), 1), ((1, 2, 3), 1), ((2,), 1))), ("give", 0)), None, 0, ("Tree",), "Tree")

    def test_a_kind_without_a_tree_may_be_read(self):
        self.rows((("match", 0, (((1,), 1),)), ("give", 1)), None, 0, ("Loop",), "Loop")

    def test_all_of_the_bounds(self):
        rows = tuple(("number", at % 32, 0, at + 1) for at in range(59)) + (("give", 5),)
        self.rows(rows, None, 0)
        functions = tuple(named(f"f{at}") for at in range(12))
        self.expect((MANY_KINDS, functions), None)


class HeadsTest(CheckTest):
    def test_double(self):
        self.expect((LIST_KINDS, (named("a"), named("a"))), ("double", "a", 0))
        self.expect((LIST_KINDS, (named("a"), named("b"), named("c"), named("b"), named("a"))), ("double", "b", 0))
        self.expect((LIST_KINDS, (named("a"), named("b"), named("a"), named("b"))), ("double", "a", 0))
        self.expect((LIST_KINDS, (named("a"), named("aa"), named("aA"))), None)

    def test_double_is_ahead_of_all_else(self):
        bad = named("x", ("Nokind",), "Nokind", (("give", 31), ("number", 0, 0, 59)))
        self.expect((LIST_KINDS, (bad, named("a"), named("a"))), ("double", "a", 0))
        self.expect((LIST_KINDS, (bad, bad)), ("double", "x", 0))

    def test_kind(self):
        for word in ("Nokind", "Nil", "Cons", "R", "Number"):
            self.expect((LIST_KINDS, (named("a"), named("b", (word,)))), ("kind", "b", 0))
            self.expect((LIST_KINDS, (named("a"), named("b", ("number", "List", word)))), ("kind", "b", 0))
            self.expect((LIST_KINDS, (named("a"), named("b", (), word))), ("kind", "b", 0))
            self.expect((LIST_KINDS, (named("a"), named("b", (), word), named("c", (word,)))), ("kind", "b", 0))
            self.expect((LIST_KINDS, (named("b", ("number",) * 7 + (word,)), named("c", (), word))), ("kind", "b", 0))

    def test_kind_is_ahead_of_all_rows(self):
        self.expect((LIST_KINDS, (named("a", rows=(("give", 0), ("number", 0, 0, 59))), named("b", (), "Nokind"))),
                    ("kind", "b", 0))

    def test_kinds_and_makers_of_one_name(self):
        kinds = (("A", (("B", ()),)), ("B", (("A", ("B",)),)))
        rows = (("make", 0, "B", (), 1), ("give", 0))
        self.expect(program_of(*rows, result="A", kinds=kinds), None)
        self.expect(program_of(*rows, result="B", kinds=kinds), ("unfit", "f", 1))


class RowsAloneTest(CheckTest):
    def test_next(self):
        for rows in (
                (("number", 0, 0, 2), ("give", 0)),
                (("add", 0, 0, 0, 2), ("give", 0)),
                (("sub", 0, 0, 0, 59), ("give", 0)),
                (("less", 0, 0, 2, 1), ("give", 0)),
                (("less", 0, 0, 1, 2), ("give", 0)),
                (("make", 0, "Nil", (), 2), ("give", 0)),
                (("match", 0, (((), 1), ((), 2))), ("give", 0)),
                (("match", 0, (((), 2), ((), 1))), ("give", 0)),
                (("call", 0, "f", (), 2), ("give", 0))):
            self.rows(rows, "next", 0)
        self.rows((("number", 0, 0, 1), ("number", 0, 0, 3), ("give", 0)), "next", 1)
        self.rows((("give", 0), ("give", 0), ("number", 0, 0, 3)), "next", 2)
        self.rows((("number", 0, 0, 0),), "endless", 0)
        self.rows((("number", 0, 0, 1),), "next", 0)

    def test_name(self):
        for maker in ("Nomaker", "Tree", "List", "F"):
            self.rows((("make", 0, maker, (), 1), ("give", 0)), "name", 0)
            self.rows((("number", 0, 0, 1), ("make", 0, maker, (0, 1, 2, 3), 2), ("give", 0)), "name", 1)
        for function in ("nofun", "ff", "nil", "cons"):
            self.rows((("call", 0, function, (), 1), ("give", 0)), "name", 0)
            self.rows((("number", 0, 0, 1), ("call", 0, function, (0,) * 8, 2), ("give", 0)), "name", 1)

    def test_functions_further_on_are_there(self):
        self.expect((LIST_KINDS, (named("a", rows=(("call", 0, "b", (), 1), ("give", 0))), named("b"))), None)
        self.expect((LIST_KINDS, (named("b"), named("a", rows=(("call", 0, "b", (), 1), ("give", 0))))), None)

    def test_many_args_of_a_make(self):
        for maker, fields in (("Nil", 0), ("One", 1), ("Cons", 2), ("Node", 3), ("Wide4", 4), ("Wide0", 0), ("Again", 1)):
            for many in range(5):
                rows = (("number", 0, 0, 1), ("make", 1, maker, (9,) * many, 2), ("give", 0))
                self.rows(rows, "unset" if many == fields and many else None if many == fields else "many", 1)

    def test_many_args_of_a_call(self):
        for params in range(9):
            for many in range(9):
                rows = (("number", 0, 0, 1), ("call", 1, "g", (0,) * many, 2), ("give", 0))
                program = program_of(*rows, others=(named("g", ("number",) * params),))
                self.expect(program, None if many == params else ("many", "f", 1))

    def test_two_equal_registers_of_a_branch(self):
        for setting in ((1, 1), (1, 2, 1), (1, 2, 3, 3), (0, 0)):
            self.rows((("match", 0, (((), 1), (setting, 1), ((2,), 1))), ("give", 0)), "many", 0, ("Tree",))
            self.rows((("match", 0, ((setting, 1), ((), 1))), ("give", 0)), "many", 0)
        self.rows((("match", 0, (((), 1), ((1, 2, 3), 1), ((1,), 1))), ("give", 0)), None, 0, ("Tree",), "Tree")

    def test_in_this_order_within_a_row(self):
        self.rows((("make", 0, "Nomaker", (0,) * 4, 2), ("give", 0)), "next", 0)
        self.rows((("make", 0, "Nil", (0,) * 4, 2), ("give", 0)), "next", 0)
        self.rows((("call", 0, "nofun", (0,) * 4, 2), ("give", 0)), "next", 0)
        self.rows((("call", 0, "f", (0,) * 4, 2), ("give", 0)), "next", 0)
        self.rows((("match", 0, (((1, 1), 0), ((), 2))), ("give", 0)), "next", 0)
        self.rows((("make", 0, "Nomaker", (0,) * 4, 1), ("give", 0)), "name", 0)

    def test_row_by_row(self):
        rows = (("give", 9), ("make", 0, "Nil", (0,), 0), ("make", 0, "Nomaker", (), 0), ("number", 0, 0, 9))
        self.rows(rows, "many", 1)
        self.rows(rows[:1] + rows[2:], "name", 1)
        self.rows(rows[:1] + rows[3:], "next", 1)
        self.rows(rows[:1] + rows[:0:-1], "next", 1)

    def test_ahead_of_idle_endless_and_registers(self):
        self.rows((("give", 9), ("number", 0, 0, 2)), "next", 1)
        self.rows((("give", 9), ("number", 0, 0, 1), ("make", 0, "Nomaker", (), 0)), "name", 2)
        self.rows((("give", 9), ("number", 0, 0, 1), ("match", 0, (((4, 4), 0),))), "many", 2)


class WaysTest(CheckTest):
    def test_idle(self):
        self.rows((("give", 9), ("give", 9)), "idle", 1)
        self.rows((("number", 0, 0, 2), ("give", 0), ("give", 0)), "idle", 1)
        self.rows((("number", 0, 0, 2), ("number", 0, 0, 3), ("give", 0), ("number", 0, 0, 1)), "idle", 1)
        self.rows((("less", 0, 0, 3, 1), ("give", 0), ("number", 0, 0, 1), ("give", 0)), "idle", 2)
        self.rows((("match", 0, (((), 1), ((), 3))), ("give", 0), ("number", 0, 0, 1), ("give", 0)), "idle", 2)

    def test_rows_that_are_come_to_by_each_next(self):
        rows = (("match", 0, (((), 3), ((1, 2), 1))), ("less", 1, 1, 2, 3), ("give", 2), ("give", 0))
        self.rows(rows, None, 0, ("List",), "List", LIST_KINDS)

    def test_endless(self):
        self.rows((("number", 0, 0, 0),), "endless", 0)
        self.rows((("less", 0, 0, 1, 2), ("give", 0), ("number", 0, 0, 2)), "endless", 2)
        self.rows((("less", 0, 0, 2, 1), ("number", 0, 0, 1), ("give", 0)), "endless", 1)
        self.rows((("less", 0, 0, 3, 1), ("number", 0, 0, 2), ("number", 0, 0, 1), ("give", 0)), "endless", 1)
        self.rows((("number", 9, 0, 1), ("less", 0, 0, 1, 0)), "endless", 0)

    def test_a_call_of_what_never_ends_is_not_endless(self):
        self.rows((("call", 0, "f", (), 1), ("give", 0)), None, 0)

    def test_idle_is_ahead_of_endless(self):
        self.rows((("number", 0, 0, 0), ("give", 0)), "idle", 1)
        self.rows((("number", 0, 0, 0), ("number", 0, 0, 1)), "idle", 1)

    def test_ways_are_ahead_of_registers(self):
        self.rows((("add", 0, 1, 1, 0),), "endless", 0)
        self.rows((("add", 0, 1, 1, 1), ("give", 2), ("number", 0, 0, 1)), "idle", 2)


class RegistersTest(CheckTest):
    def test_unset(self):
        for row, set_ahead in (
                (("add", 0, 9, 1, 2), 1), (("add", 0, 1, 9, 2), 1), (("sub", 0, 9, 1, 2), 1), (("sub", 0, 1, 9, 2), 1),
                (("less", 9, 1, 2, 2), 1), (("less", 1, 9, 2, 2), 1), (("make", 0, "One", (9,), 2), 1),
                (("make", 0, "Node", (8, 1, 9), 2), 1), (("call", 0, "f", (8, 9), 2), 1), (("match", 9, (((), 2),)), 1)):
            self.rows((("number", set_ahead, 0, 1), row, ("give", 1)), "unset", 1, ("Tree", "number"))
        self.rows((("give", 0),), "unset", 0)
        self.rows((("give", 2),), "unset", 0, ("number", "number"))

    def test_unfit(self):
        for row in (
                ("add", 9, 0, 1, 1), ("add", 9, 1, 0, 1), ("sub", 9, 0, 1, 1), ("sub", 9, 1, 0, 1), ("less", 0, 1, 1, 1),
                ("less", 1, 0, 1, 1), ("match", 1, (((), 1),)), ("make", 9, "One", (0,), 1),
                ("make", 9, "Cons", (1, 0), 1), ("make", 9, "Cons", (2, 2), 1), ("make", 9, "Node", (0, 1, 2), 1),
                ("make", 9, "Node", (0, 0, 0), 1), ("make", 9, "Again", (0,), 1), ("call", 9, "f", (1, 1, 2), 1),
                ("call", 9, "f", (0, 0, 2), 1), ("call", 9, "f", (0, 1, 0), 1)):
            self.rows((row, ("give", 1)), "unfit", 0, ("Tree", "number", "List"))

    def test_unfit_gives(self):
        for word in ("number", "Tree", "List", "Wide"):
            for at, has in enumerate(("Tree", "number", "List")):
                self.rows((("give", at),), None if has == word else "unfit", 0, ("Tree", "number", "List"), word)

    def test_registers_in_their_order(self):
        tree_number = ("Tree", "number")
        for row, word in (
                (("add", 9, 0, 8, 1), "unfit"), (("add", 9, 8, 0, 1), "unset"), (("sub", 9, 0, 8, 1), "unfit"),
                (("sub", 9, 8, 0, 1), "unset"), (("less", 0, 8, 1, 1), "unfit"), (("less", 8, 0, 1, 1), "unset"),
                (("make", 9, "Node", (1, 8, 0), 1), "unfit"), (("make", 9, "Node", (0, 8, 1), 1), "unset"),
                (("make", 9, "Node", (0, 0, 8), 1), "unfit"), (("call", 9, "f", (1, 8), 1), "unfit"),
                (("call", 9, "f", (8, 0), 1), "unset"), (("call", 9, "f", (0, 0), 1), "unfit")):
            self.rows((row, ("give", 1)), word, 0, tree_number)

    def test_many_at_a_match(self):
        for branches in (
                (((), 1),), (((), 1), ((1, 2, 3), 1)), (((), 1), ((1, 2, 3), 1), ((4,), 1), ((), 1)),
                (((), 1), ((1, 2, 3), 1), ((), 1)), (((5,), 1), ((1, 2, 3), 1), ((4,), 1)),
                (((), 1), ((1, 2), 1), ((4,), 1)), (((), 1), ((1, 2, 3, 5), 1), ((4,), 1)),
                (((), 1), ((4,), 1), ((1, 2, 3), 1)), (((), 1), ((1, 2, 3), 1), ((4, 5), 1))):
            self.rows((("match", 0, branches), ("give", 0)), "many", 0, ("Tree",), "Tree")
        self.rows((("match", 0, (((), 1), ((1, 2, 3), 1), ((4,), 1))), ("give", 0)), None, 0, ("Tree",), "Tree")

    def test_over(self):
        for branches in (
                (((), 1), ((0, 4, 5), 1), ((6,), 1)), (((), 1), ((4, 0, 5), 1), ((6,), 1)),
                (((), 1), ((4, 5, 0), 1), ((6,), 1)), (((), 1), ((4, 5, 6), 1), ((0,), 1)),
                (((), 1), ((2, 4, 5), 1), ((6,), 1)), (((), 1), ((4, 5, 6), 1), ((2,), 1)),
                (((), 1), ((2, 4, 5), 1), ((0,), 1))):
            self.rows((("match", 0, branches), ("give", 0)), "over", 0, ("Tree", "number", "List"), "Tree")
        self.rows((("match", 0, (((), 1), ((1, 4, 5), 1), ((1,), 1))), ("give", 0)), None, 0, ("Tree", "number", "List"),
                  "Tree")

    def test_over_with_a_field_of_the_same_kind(self):
        self.rows((("match", 0, (((), 1), ((1, 0), 1))), ("give", 0)), "over", 0, ("List",), "List")
        self.rows((("match", 0, (((0,), 1),)), ("give", 0)), "over", 0, ("Loop",), "Loop")

    def test_many_is_ahead_of_over(self):
        self.rows((("match", 0, (((0,), 1), ((1, 2, 3), 1), ((4,), 1))), ("give", 0)), "many", 0, ("Tree",), "Tree")
        self.rows((("match", 0, (((), 1), ((0, 2, 3), 1), ((4, 5), 1))), ("give", 0)), "many", 0, ("Tree",), "Tree")
        self.rows((("match", 0, (((), 1), ((0, 2, 3), 1))), ("give", 0)), "many", 0, ("Tree",), "Tree")
        self.rows((("match", 0, (((), 1), ((0, 2, 3), 1), ((4,), 1))), ("give", 0)), "over", 0, ("Tree",), "Tree")

    def test_row_by_row(self):
        self.rows((("add", 9, 0, 0, 1), ("give", 8)), "unfit", 0, ("Tree",))
        self.rows((("number", 7, 0, 2), ("give", 8), ("add", 9, 0, 0, 1)), "unset", 1, ("Tree",))
        self.rows((("less", 1, 1, 2, 1), ("give", 0), ("match", 0, (((0,), 1),))), "unfit", 1, ("Loop", "number"))

    def test_a_register_has_something_on_one_way_alone(self):
        rows = (("less", 0, 0, 1, 2), ("number", 1, 0, 2), ("give", 1))
        self.rows(rows, "unset", 2, ("number",))
        self.rows(rows, None, 2, ("number", "number"))
        self.rows(rows, "unset", 2, ("number", "Tree"))
        self.rows(rows, "unset", 2, ("number", "Tree"), "Tree")

    def test_two_nexts_that_are_one_row(self):
        rows = (("match", 0, (((), 1), ((1, 2, 3), 1), ((4,), 1))), ("give", 4))
        self.rows(rows, "unset", 1, ("Tree",))
        kinds = (("K", (("A", ("number",)), ("B", ("number", "number")), ("C", ("K", "number")))),)
        rows = (("match", 0, (((1,), 1), ((2, 1), 1), ((3, 1), 1))), ("give", 1))
        self.rows(rows, None, 1, ("K",), "number", kinds)
        rows = (("match", 0, (((1,), 1), ((2, 1), 1), ((1, 3), 1))), ("give", 1))
        self.rows(rows, "unset", 1, ("K",), "number", kinds)

    def test_what_is_lost_in_a_loop(self):
        rows = (("less", 0, 0, 1, 2), ("make", 1, "Nil", (), 0), ("give", 1))
        self.rows(rows, "unset", 2, ("number", "number"))
        self.rows(rows, None, 2, ("number", "List"), "List")

    def test_the_begin_counts_at_row_0(self):
        rows = (("less", 1, 1, 1, 2), ("number", 0, 0, 0), ("give", 0))
        self.rows(rows, "unset", 2, ("Tree", "number"), "Tree")
        self.rows(rows, "unset", 0, (), "number")
        self.rows((("number", 1, 0, 1), ("less", 0, 1, 0, 2), ("give", 1)), "unset", 1, ())

    def test_what_goes_round_stays(self):
        rows = (("number", 1, 0, 1), ("less", 1, 0, 2, 3), ("add", 1, 1, 0, 1), ("give", 2))
        self.rows(rows, None, 0, ("number", "number", "Tree"), "Tree")

    def test_kinds_that_hang_on_kinds_round_a_loop(self):
        kinds = (("K", (("A", ("K", "K")), ("B", ()))),)
        rows = (("match", 0, (((1, 2), 1), ((), 3))), ("match", 1, (((3, 4), 2), ((), 3))),
                ("make", 1, "A", (3, 4), 1), ("give", 0))
        self.rows(rows, None, 1, ("K",), "K", kinds)
        self.rows(replaced(rows, (1, 2, 0), ((3, 2), 2)), "over", 1, ("K",), "K", kinds)

    def test_behind_a_match_of_what_has_no_kind_registers_have_nothing(self):
        rows = (("match", 0, (((2, 3), 1),)), ("less", 2, 2, 2, 2), ("give", 1))
        self.rows(rows, "unfit", 0, ("number", "number"))
        rows = (("less", 1, 1, 1, 2), ("give", 3), ("match", 0, (((3,), 1), ((), 1))))
        self.rows(rows, "unset", 1, ("number", "number", "Tree", "number"))
        self.rows(rows, "unset", 1, ("Tree", "number", "Tree"))
        rows = (("less", 1, 1, 1, 2), ("give", 3), ("match", 8, (((4,), 1), ((), 1))))
        self.rows(rows, "unset", 2, ("number", "number", "Tree", "number"))

    def test_branches_beyond_the_makers_and_registers_beyond_the_fields(self):
        # Rows ahead of the match show what its branches bring, as they are looked at first.
        rows = (("less", 1, 1, 2, 3), ("give", 4), ("add", 5, 4, 4, 1),
                ("match", 0, (((4,), 2), ((4, 6), 2), ((6, 4), 2))))
        self.rows(rows, "unset", 1, ("List", "number", "List", "List", "number"))
        rows = (("less", 1, 1, 1, 2), ("give", 4), ("match", 0, (((), 1), ((4, 5, 6), 1))))
        self.rows(rows, "many", 2, ("List", "number", "List", "List", "number"))
        rows = (("less", 1, 1, 1, 2), ("give", 6), ("match", 0, (((), 1), ((4, 5, 6), 1))))
        self.rows(rows, "unset", 1, ("List", "number", "List", "List", "number", "List", "number"))
        rows = (("less", 1, 1, 1, 2), ("give", 4), ("match", 0, (((), 1), ((3, 5), 1), ((4,), 1))))
        self.rows(rows, "unset", 1, ("List", "number", "List", "number", "number"))


class SeveralTest(CheckTest):
    WRONG = {
        "next": (("number", 0, 0, 1), ("number", 0, 0, 3), ("give", 0)),
        "name": (("number", 0, 0, 1), ("make", 0, "Nomaker", (), 2), ("give", 0)),
        "many": (("number", 0, 0, 1), ("make", 1, "Nil", (0,), 2), ("give", 0)),
        "idle": (("number", 0, 0, 2), ("number", 0, 0, 2), ("give", 0)),
        "endless": (("less", 0, 0, 1, 2), ("number", 0, 0, 1), ("give", 0)),
        "unset": (("number", 0, 0, 1), ("add", 0, 0, 5, 2), ("give", 0)),
        "unfit": (("make", 0, "Nil", (), 1), ("add", 0, 0, 5, 2), ("give", 0)),
        "over": (("make", 0, "Nil", (), 1), ("match", 0, (((), 2), ((0, 1), 2))), ("give", 0)),
    }

    def test_one_function_ahead_of_the_next_one(self):
        for one, rows in self.WRONG.items():
            for other, more in self.WRONG.items():
                program = (LIST_KINDS, (named("a"), named("b", rows=rows), named("c", rows=more)))
                self.expect(program, (one, "b", 1))
                self.expect((LIST_KINDS, (named("b", rows=rows), named("d", ("Nokind",), rows=more))), ("kind", "d", 0))
                self.expect((LIST_KINDS, (named("b", rows=rows), named("d", rows=more), named("b"))), ("double", "b", 0))

    def test_what_is_wrong_is_told_of_the_first_row(self):
        for word, rows in self.WRONG.items():
            self.expect(program_of(*rows), (word, "f", 1))

    def test_the_phases_of_a_function(self):
        """Two wrong things in one function, at any rows: phases go ahead of rows."""
        rows = (("add", 5, 6, 6, 1), ("give", 0), ("number", 0, 0, 2), ("number", 0, 0, 3))
        self.expect(program_of(*rows), ("idle", "f", 2))
        self.expect(program_of(*replaced(rows, (3, 3), 4)), ("next", "f", 3))
        self.expect(program_of(*replaced(rows, (0, 4), 2)), ("idle", "f", 1))
        rows = (("less", 6, 6, 1, 2), ("give", 0), ("number", 0, 0, 2))
        self.expect(program_of(*rows), ("endless", "f", 2))
        self.expect(program_of(*replaced(rows, (2, 3), 1)), ("unset", "f", 0))


if __name__ == "__main__":
    unittest.main()
