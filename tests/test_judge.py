"""[11] to [13]: judge, each fault and the first of several, and what the tables of right placings hold."""

import unittest

from justfreed.checks import check
from justfreed.errors import BadPlacing, BadProgram, NotChecked
from justfreed.judging import judge
from justfreed.placing import placed
from tests.placings import bare, drop, free, hold, placing_of, with_deeds, with_token
from tests.samples import (
    GIVE, JOIN, LIST_PROGRAM, LOOP, MANY_KINDS, NUMBER, ODD, PAIRS, SIZE_KINDS, SIZES, TWO, program_of)

LIST = ("List",)


class JudgeTest(unittest.TestCase):
    def right(self, program, *tables, spots=None, tokens=None):
        result = judge(program, placing_of(program, spots, tokens))
        self.assertEqual(result, ("right", tables))

    def wrong(self, program, way, fault, spots=None, tokens=None, name="f"):
        result = judge(program, placing_of(program, spots, tokens))
        self.assertEqual(result, ("wrong", name, way, fault))


class DeedsTest(JudgeTest):
    def test_nothing_to_do(self):
        self.right(GIVE, ((0, ((0, 1),), ()),))
        self.right(program_of(("give", 0), params=("number",)), ((0, (), ()),))
        self.right(program_of(("number", 5, 1, 1), ("give", 5)), ((0, (), ()), (1, (), ())))

    def test_hold(self):
        self.right(GIVE, ((0, ((0, 2),), ()),), spots={("entry",): hold(0), ("before", 0): drop(0)})
        self.right(GIVE, ((0, ((0, 1),), ()),), spots={("before", 0): hold(0) + drop(0)})
        self.right(GIVE, ((0, ((0, 31),), ()),), spots={("entry",): hold(0) * 30, ("before", 0): drop(0) * 30})
        self.right(GIVE, ((0, ((0, 61),), ()),), spots={("entry",): hold(0) * 60, ("before", 0): drop(0) * 60})
        for r in (1, 2, 31):
            self.wrong(GIVE, (), ("hold", r), {("entry",): hold(r)})
            self.wrong(GIVE, (), ("hold", r), {("before", 0): hold(r)})
        self.wrong(GIVE, (), ("hold", 0), {("entry",): drop(0) + hold(0)})
        self.wrong(NUMBER, (0,), ("hold", 2), {("entry",): drop(0, 1), ("edge", 0, 0): hold(2)})
        self.wrong(LOOP, (), ("hold", 1), {("before", 0): hold(1)})

    def test_drop(self):
        self.right(NUMBER, ((0, (), ()), (1, (), ())), spots={("entry",): drop(0, 1)})
        self.right(NUMBER, ((0, ((0, 1), (1, 1)), ()), (1, ((0, 1), (1, 1)), ())), spots={("before", 1): drop(1, 0)})
        self.right(NUMBER, ((0, ((0, 1), (1, 1)), ()), (1, ((1, 1),), ())),
                   spots={("edge", 0, 0): drop(0), ("before", 1): drop(1)})
        for r in (1, 31):
            self.wrong(GIVE, (), ("drop", r), {("entry",): drop(r)})
        self.wrong(GIVE, (), ("drop", 0), {("entry",): drop(0, 0)})
        self.wrong(GIVE, (), ("drop", 0), {("entry",): drop(0), ("before", 0): drop(0)})
        self.wrong(GIVE, (), ("drop", 0), {("entry",): hold(0), ("before", 0): drop(0, 0, 0)})
        self.wrong(NUMBER, (0,), ("drop", 0), {("entry",): drop(0, 1), ("edge", 0, 0): drop(0)})
        self.wrong(NUMBER, (0,), ("drop", 1), {("entry",): drop(1), ("before", 1): drop(1)})

    def test_free(self):
        for token in (0, 15):
            for size in (0, 4):
                self.wrong(GIVE, (), ("free", token), {("entry",): free(token, size)})
                self.wrong(GIVE, (), ("free", token), {("before", 0): free(token, size)})
        frees = {("edge", 0, size): free(7, size) for size in range(5)}
        self.assertEqual(judge(SIZES, placing_of(SIZES, frees, {0: 7}))[0], "right")
        for size in range(5):
            for other in range(5):
                if other != size:
                    self.wrong(SIZES, (size,), ("free", 7), {**frees, ("edge", 0, size): free(7, other)}, {0: 7})
            self.wrong(SIZES, (size,), ("free", 6), {**frees, ("edge", 0, size): free(6, size)}, {0: 7})
            self.wrong(SIZES, (size,), ("free", 7), {**frees, ("edge", 0, size): free(7, size) * 2}, {0: 7})
            self.wrong(SIZES, (size,), ("free", 7), {**frees, ("before", 1 + size): free(7, size)}, {0: 7})

    def test_the_first_fault_of_a_spot(self):
        for deeds, fault in ((drop(5) + hold(6), ("drop", 5)), (hold(6) + drop(5), ("hold", 6)),
                             (free(3, 0) + drop(1), ("free", 3)), (drop(0, 0) + hold(1), ("drop", 0)),
                             (hold(0) + drop(0, 0) + hold(0) + drop(1), ("hold", 0))):
            for spot in (("entry",), ("before", 0)):
                self.wrong(GIVE, (), fault, {spot: deeds})
        self.wrong(GIVE, (), ("drop", 3), {("entry",): drop(3), ("before", 0): hold(2)})
        self.wrong(GIVE, (), ("hold", 2), {("before", 0): drop(0) + hold(2)})


class RowsTest(JudgeTest):
    def test_uses(self):
        self.wrong(GIVE, (), ("use", 0), {("entry",): drop(0)})
        self.wrong(GIVE, (), ("use", 0), {("before", 0): drop(0)})
        self.wrong(JOIN, (0, 0), ("use", 0), {("edge", 1, 0): drop(0)})
        self.wrong(JOIN, (0, 0, 0), ("use", 0), {("edge", 3, 0): drop(0)})
        self.wrong(SIZES, (), ("use", 0), {("entry",): drop(0)})

    def test_each_use_takes_a_hold(self):
        program = program_of(("call", 1, "f", (0, 0, 0), 1), ("give", 1), params=("List",) * 3, result="List")
        rest = {("entry",): drop(1, 2)}
        self.wrong(program, (), ("use", 0), rest)
        self.wrong(program, (), ("use", 0), {**rest, ("before", 0): hold(0)})
        self.right(program, ((0, ((0, 1),), ()), (1, ((1, 1),), ())), spots={**rest, ("before", 0): hold(0, 0)})
        self.right(program, ((0, ((0, 3),), ()), (1, ((1, 1),), ())), spots={("entry",): drop(1, 2) + hold(0, 0)})
        self.wrong(program, (0,), ("left", 0), {**rest, ("before", 0): hold(0, 0, 0)})

    def test_uses_in_the_order_of_operands(self):
        program = program_of(("call", 3, "f", (2, 0, 1), 1), ("give", 3), params=("List",) * 3, result="List")
        self.right(program, ((0, ((0, 1), (1, 1), (2, 1)), ()), (1, ((3, 1),), ())))
        self.wrong(program, (), ("use", 2), {("entry",): drop(0, 1, 2)})
        self.wrong(program, (), ("use", 0), {("entry",): drop(0, 1)})
        self.wrong(program, (), ("use", 1), {("entry",): drop(1)})
        program = program_of(("make", 2, "T2", (1, 0), 1), ("give", 2), params=("S", "S"), result="T", kinds=SIZE_KINDS)
        self.wrong(program, (), ("use", 1), {("entry",): drop(0, 1)})

    def test_numbers_are_no_uses(self):
        program = program_of(("make", 2, "Cons", (0, 1), 1), ("give", 2), params=("number", "List"), result="List")
        self.right(program, ((0, ((1, 1),), ()), (1, ((2, 1),), ())))
        program = program_of(("call", 0, "f", (0,), 1), ("add", 0, 0, 0, 2), ("give", 0), params=("number",))
        self.right(program, ((0, (), ()), (1, (), ()), (2, (), ())))

    def test_bind(self):
        for row, r in ((("make", 0, "Nil", (), 1), 0), (("make", 1, "Nil", (), 1), 1)):
            program = program_of(row, ("give", r), params=("List", "List"), result="List")
            self.wrong(program, (0,), ("bind", r), {("entry",): drop(1 - r)})
            self.right(program, ((0, (), ()), (1, ((r, 1),), ())), spots={("entry",): drop(0, 1)})
            self.right(program, ((0, ((r, 1),), ()), (1, ((r, 1),), ())), spots={("entry",): drop(1 - r), ("before", 0): drop(r)})
        for row in (("number", 0, 1, 1), ("add", 0, 1, 1, 1), ("sub", 0, 1, 1, 1)):
            program = program_of(row, ("give", 0), params=("List", "number"))
            self.wrong(program, (0,), ("bind", 0))
            self.wrong(program, (0,), ("bind", 0), {("edge", 0, 0): drop(0)})
            self.right(program, ((0, ((0, 1),), ()), (1, (), ())), spots={("before", 0): drop(0)})
        program = program_of(("call", 0, "f", (0,), 1), ("give", 0), params=LIST, result="List")
        self.right(program, ((0, ((0, 1),), ()), (1, ((0, 1),), ())))
        self.wrong(program, (0,), ("bind", 0), {("entry",): hold(0)})
        self.wrong(program, (0,), ("bind", 0), {("before", 0): hold(0), ("edge", 0, 0): drop(0)})

    def test_bind_on_a_branch_in_the_order_of_fields(self):
        # Registers 1 and 2 have trees of unlike kinds on the two ways to row 3, so that a branch may set them.
        program = program_of(
            ("less", 3, 3, 1, 2), ("make", 1, "Nil", (), 4), ("make", 1, "T0", (), 5),
            ("match", 0, (((2, 1), 6), ((), 6))), ("make", 2, "Nil", (), 3), ("make", 2, "T0", (), 3),
            ("number", 3, 0, 7), ("give", 3),
            params=("T", "number", "number", "number"), kinds=SIZE_KINDS + (("List", (("Nil", ()),)),))
        self.assertIsNone(check(program))
        dropped = {("edge", 3, 1): drop(2, 1)}
        bound = {("edge", 3, 0): drop(1, 2)}
        self.wrong(program, (0, 0, 0, 0), ("bind", 2), {**dropped, **bound})
        self.wrong(program, (0, 0, 0, 0), ("bind", 1), {**dropped, **bound, ("edge", 4, 0): drop(2), ("edge", 5, 0): drop(2),
                                                        ("edge", 3, 1): drop(1)})
        self.wrong(program, (1, 0, 0, 0), ("bind", 2), {**bound, ("edge", 4, 0): drop(1, 2)})
        self.wrong(program, (0, 0, 0, 1), ("drop", 2), {**bound, ("edge", 4, 0): drop(1, 2), ("edge", 5, 0): drop(2, 1),
                                                        **dropped})
        self.assertEqual(judge(program, placing_of(program, {**bound, ("before", 3): drop(1, 2)}))[0], "right")

    def test_left(self):
        self.wrong(GIVE, (), ("left", 0), {("entry",): hold(0)})
        self.wrong(GIVE, (), ("left", 0), {("before", 0): hold(0)})
        self.wrong(TWO, (), ("left", 1))
        self.wrong(TWO, (), ("left", 0), {("entry",): hold(0)})
        self.wrong(TWO, (), ("left", 1), {("entry",): hold(1)})
        self.wrong(NUMBER, (0,), ("left", 0))
        self.wrong(NUMBER, (0,), ("left", 1), {("before", 1): drop(0)})
        self.wrong(program_of(("give", 1), params=("List", "List"), result="List"), (), ("left", 0))
        self.wrong(program_of(("give", 1), params=("List", "number")), (), ("left", 0))
        self.wrong(program_of(("make", 31, "Nil", (), 1), ("give", 0), params=("number",)), (0,), ("left", 31))

    def test_a_use_is_ahead_of_what_is_left(self):
        self.wrong(TWO, (), ("use", 0), {("entry",): drop(0)})


class TokensTest(JudgeTest):
    def test_a_token_of_each_size(self):
        makes = {1 + size: 9 for size in range(5)}
        self.right(SIZES, (
            (0, ((0, 1),), ()), (1, (), ((9, 0),)), (2, (), ((9, 1),)), (3, (), ((9, 2),)), (4, (), ((9, 3),)),
            (5, (), ((9, 4),)), (6, ((0, 1),), ())), tokens={0: 9, **makes})
        for size in range(5):
            self.wrong(SIZES, (size,), ("token", 8), tokens={0: 9, **makes, 1 + size: 8})
            self.wrong(SIZES, (size, 0), ("token", 9), tokens={0: 9, **makes, 1 + size: None})
            self.wrong(SIZES, (size,), ("token", 9), {("edge", 0, size): free(9, size)}, {0: 9, **makes})
            self.right(SIZES, (
                (0, ((0, 1),), ()),
                *[(1 + at, (), () if at == size else ((9, at),)) for at in range(5)], (6, ((0, 1),), ())),
                spots={("edge", 0, size): free(9, size)}, tokens={0: 9, **makes, 1 + size: None})

    def test_no_match_has_made_it(self):
        self.wrong(SIZES, (0,), ("token", 0), tokens={1: 0})
        self.wrong(SIZES, (4,), ("token", 15), tokens={5: 15})
        self.wrong(PAIRS, (0, 0), ("token", 3), tokens={2: 3})

    def test_another_size(self):
        # The second branch's room has no field, the make on it two.
        program = program_of(
            ("match", 0, (((1, 2), 1), ((), 1))), ("make", 3, "T0", (), 2), ("give", 3), params=("T",), result="T",
            kinds=SIZE_KINDS)
        self.wrong(program, (0,), ("token", 0), {("edge", 0, 0): drop(1, 2)}, {0: 0, 1: 0})
        self.right(program, ((0, ((0, 1),), ()), (1, (), ()), (2, ((3, 1),), ())),
                   spots={("edge", 0, 0): drop(1, 2)})
        self.wrong(program, (0,), ("token", 0), {("edge", 0, 0): drop(1, 2)}, {1: 0})
        self.wrong(program, (0, 0), ("token", 0), {("edge", 0, 0): drop(1, 2)}, {0: 0})
        # Here the first branch's room fits.
        program = program_of(
            ("match", 0, (((1, 2), 1), ((), 1))), ("make", 3, "T2", (4, 5), 2), ("give", 3),
            params=("T", "number", "number", "number", "S", "S"), result="T", kinds=SIZE_KINDS)
        self.wrong(program, (1,), ("token", 0), {("edge", 0, 0): drop(1, 2)}, {0: 0, 1: 0})

    def test_left_tokens(self):
        makes = {2: 0, 3: 1, 6: 0}
        rest = {("edge", 0, 1): free(0, 0), ("edge", 1, 1): ()}
        self.right(PAIRS, (
            (0, ((0, 1), (1, 1)), ()), (1, ((1, 1), (2, 1), (3, 1)), ((0, 2),)),
            (2, ((2, 1), (3, 1), (4, 1), (5, 1)), ((0, 2), (1, 2))), (3, ((4, 1), (5, 1), (6, 1)), ((1, 2),)),
            (4, ((6, 1), (7, 1)), ()), (5, ((1, 1),), ()), (6, ((2, 1), (3, 1)), ((0, 2),)), (7, ((8, 1),), ())),
            spots={**rest, ("edge", 1, 1): free(1, 0)}, tokens={0: 0, 1: 1, **makes})
        self.wrong(PAIRS, (1,), ("token", 0), {("edge", 1, 1): free(1, 0)}, {0: 0, 1: 1, **makes})
        self.wrong(PAIRS, (0, 1, 0), ("token", 1), rest, {0: 0, 1: 1, **makes})
        self.wrong(PAIRS, (0, 1, 0), ("token", 0), rest, {0: 0, 1: 1, 2: 0, 3: 1})
        self.wrong(PAIRS, (1,), ("token", 4), {}, {0: 4})

    def test_a_token_that_is_there_already(self):
        for token in (0, 5, 15):
            self.wrong(PAIRS, (0,), ("token", token), {("edge", 0, 1): free(token, 0)}, {0: token, 1: token, 2: token})
            self.assertEqual(judge(PAIRS, placing_of(
                PAIRS, {("edge", 0, 0): free(token, 2), ("edge", 0, 1): free(token, 0), ("edge", 1, 1): free(token, 0)},
                {0: token, 1: token, 3: token}))[0], "right")
            self.assertEqual(judge(PAIRS, placing_of(
                PAIRS, {("before", 1): free(token, 2), ("before", 5): free(token, 0), ("before", 6): free(token, 0)},
                {0: token, 1: token, 2: token}))[0], "right")

    def test_a_token_twice(self):
        self.wrong(PAIRS, (0, 0, 0), ("token", 0), {("edge", 0, 1): free(0, 0)}, {0: 0, 2: 0, 3: 0, 6: 0})

    def test_uses_are_ahead_of_tokens(self):
        self.wrong(PAIRS, (0,), ("use", 1), {("edge", 0, 0): drop(1), ("edge", 0, 1): free(0, 0)}, {0: 0, 1: 0})
        self.wrong(PAIRS, (0, 0), ("use", 3), {("edge", 1, 0): drop(3)}, {2: 0})

    def test_tokens_are_ahead_of_settings(self):
        program = program_of(("make", 0, "Nil", (), 1), ("give", 0), params=LIST, result="List")
        self.wrong(program, (), ("token", 0), tokens={0: 0})
        self.wrong(program, (0,), ("bind", 0))

    def test_a_left_hold_is_ahead_of_a_left_token(self):
        program = program_of(("match", 0, (((1, 2), 1), ((), 1))), ("number", 3, 0, 2), ("give", 3), params=("T",),
                             kinds=SIZE_KINDS)
        self.wrong(program, (0, 0), ("left", 1), tokens={0: 0})
        self.wrong(program, (0, 0), ("left", 2), {("edge", 0, 0): drop(1)}, {0: 0})
        self.wrong(program, (0, 0), ("token", 0), {("edge", 0, 0): drop(1, 2)}, {0: 0})
        self.wrong(program, (1, 0), ("token", 0), {("edge", 0, 0): drop(1, 2) + free(0, 2)}, {0: 0})

    def test_the_lowest_left_token(self):
        program = program_of(
            ("match", 0, (((1, 2), 1), ((), 4))), ("match", 1, (((), 2),) + tuple(((3, 4, 5, 6)[:size], 2) for size in range(1, 5))),
            ("number", 3, 0, 3), ("give", 3), ("number", 3, 0, 3), params=("T",), kinds=SIZE_KINDS)
        rest = {("edge", 0, 1): free(9, 0), ("edge", 0, 0): drop(2)}
        self.wrong(program, (0, 0, 0), ("token", 3), rest, {0: 9, 1: 3})
        self.wrong(program, (0, 0, 0), ("token", 9), {**rest, ("before", 2): ()}, {0: 9, 1: 12})
        self.wrong(program, (0, 0, 0), ("token", 9), rest, {0: 9})


class WaysTest(JudgeTest):
    def test_which_way_a_fault_belongs_to(self):
        for spot, way in ((("before", 1), (0,)), (("edge", 1, 0), (0, 0)), (("before", 3), (0, 0)), (("edge", 3, 0), (0, 0, 0)),
                          (("before", 5), (0, 0, 0)), (("edge", 0, 0), (0,)), (("edge", 0, 1), (1,)), (("before", 2), (1,)),
                          (("edge", 2, 0), (1, 0)), (("before", 4), (1, 0)), (("edge", 4, 0), (1, 0, 0)), (("entry",), ()),
                          (("before", 0), ())):
            self.wrong(JOIN, way, ("drop", 9), {spot: drop(9)})
            self.wrong(JOIN, way, ("hold", 9), {spot: hold(0) + hold(9)})

    def test_the_first_of_several_ways(self):
        self.wrong(JOIN, (1,), ("drop", 8), {("before", 3): drop(9), ("before", 2): drop(8)})
        self.wrong(JOIN, (0,), ("drop", 7), {("before", 2): drop(8), ("edge", 0, 0): drop(7)})
        self.wrong(JOIN, (0, 0), ("drop", 9), {("before", 3): drop(9), ("before", 4): drop(8)})
        self.wrong(JOIN, (1,), ("hold", 30), {("edge", 0, 1): hold(30), ("before", 3): drop(1)})
        self.wrong(JOIN, (), ("drop", 9), {("before", 0): drop(9), ("before", 1): drop(8)})

    def test_faults_of_unlike_registers_on_one_way(self):
        self.wrong(JOIN, (0,), ("drop", 9), {("edge", 0, 0): drop(9) + hold(3)})
        self.wrong(JOIN, (0,), ("hold", 3), {("edge", 0, 0): hold(3) + drop(9)})
        self.wrong(JOIN, (0,), ("drop", 9), {("edge", 0, 0): drop(9), ("before", 1): drop(3)})
        self.wrong(JOIN, (0, 0), ("drop", 31), {("edge", 1, 0): drop(31), ("before", 3): drop(0, 2)})
        self.wrong(JOIN, (0, 0), ("use", 0), {("before", 3): drop(0), ("edge", 3, 0): drop(2)})

    def test_what_is_behind_the_first_fault_is_not_gone(self):
        # Behind the fault on the first next there would be a fault of a lower register, on a way that is less.
        self.wrong(JOIN, (1,), ("drop", 9), {("edge", 0, 1): drop(9), ("edge", 2, 0): drop(0), ("edge", 1, 0): drop(1)})

    def test_the_first_function(self):
        program = program_of(("give", 0), params=LIST, result="List", others=(
            ("g", LIST, "List", (("give", 0),)), ("a", LIST, "List", (("give", 0),))))
        placing = bare(program)
        self.assertEqual(judge(program, placing), ("right", (((0, ((0, 1),), ()),),) * 3))
        last = with_deeds(placing, 2, ("entry",), drop(0))
        self.assertEqual(judge(program, last), ("wrong", "a", (), ("use", 0)))
        middle = with_deeds(last, 1, ("entry",), hold(0))
        self.assertEqual(judge(program, middle), ("wrong", "g", (), ("left", 0)))
        first = with_deeds(middle, 0, ("before", 0), drop(4))
        self.assertEqual(judge(program, first), ("wrong", "f", (), ("drop", 4)))
        # A longer way of an earlier function is ahead of a shorter one of a later function.
        program = LIST_PROGRAM
        placing = with_deeds(with_deeds(placed(program), 4, ("entry",), drop(0)), 0, ("before", 4), drop(0))
        self.assertEqual(judge(program, placing), ("wrong", "rev", (1, 0, 0), ("drop", 0)))

    def test_loops_on_which_holds_grow(self):
        self.right(LOOP, ((0, ((0, 1),), ()), (1, ((0, 1),), ()), (2, ((0, 1),), ())))
        self.wrong(LOOP, (0, 0, 1), ("left", 0), {("edge", 1, 0): hold(0)})
        self.wrong(LOOP, (0, 0, 1), ("left", 0), {("before", 1): hold(0)})
        self.wrong(LOOP, (0, 0, 1), ("left", 0), {("edge", 0, 0): hold(0) * 60, ("before", 1): hold(0) * 60})
        self.right(LOOP, ((0, ((0, 1),), ()), (1, ((0, 61),), ()), (2, ((0, 1),), ())),
                   spots={("edge", 0, 0): hold(0) * 60, ("before", 1): drop(0) * 60})

    def test_loops_on_which_holds_shrink(self):
        self.wrong(LOOP, (0, 0, 1), ("use", 0), {("edge", 1, 0): drop(0)})
        self.wrong(LOOP, (1,), ("left", 0), {("entry",): hold(0, 0), ("edge", 1, 0): drop(0)})
        program = program_of(
            ("less", 1, 1, 1, 0), ("add", 1, 1, 1, 2), ("less", 1, 1, 3, 0), ("give", 0), params=("List", "number"),
            result="List")
        self.wrong(program, (0, 0, 0), ("left", 0), {("entry",): hold(0) * 9, ("edge", 0, 1): drop(0)})
        self.wrong(program, (1, 1), ("drop", 0), {("edge", 0, 1): drop(0)})
        self.wrong(program, (0, 0, 0), ("left", 0), {("entry",): hold(0), ("edge", 0, 1): drop(0)})

    def test_a_fall_in_the_loop_is_ahead_of_the_end(self):
        # Eight rows lead on to the give; the third time round the loop there is nothing left to drop.
        program = program_of(
            ("less", 1, 1, 1, 0), *[("add", 1, 1, 1, at + 1) for at in range(1, 9)], ("give", 0),
            params=("List", "number"), result="List")
        self.wrong(program, (1, 1, 1), ("drop", 0), {("entry",): hold(0), ("edge", 0, 1): drop(0)})
        self.wrong(program, (1,) * 8, ("drop", 0), {("entry",): hold(0) * 6, ("edge", 0, 1): drop(0)})
        # With more holds the end is come to ahead of that, or by a way as long, but less.
        self.wrong(program, (0,) * 9, ("left", 0), {("entry",): hold(0) * 7, ("edge", 0, 1): drop(0)})
        self.wrong(program, (0,) * 9, ("left", 0), {("entry",): hold(0) * 8, ("edge", 0, 1): drop(0)})

    def test_ways_that_join_with_unlike_holds(self):
        self.wrong(JOIN, (0, 0, 0), ("bind", 0), {("edge", 1, 0): hold(0)})
        self.wrong(JOIN, (1, 0, 0, 0), ("bind", 0), {("edge", 4, 0): hold(0)})
        self.wrong(JOIN, (1, 0, 0), ("use", 0), {("edge", 4, 0): drop(0)})
        self.wrong(JOIN, (1, 0, 0), ("use", 0), {("edge", 1, 0): hold(0), ("before", 3): drop(0)})
        self.right(JOIN, (
            (0, ((0, 1),), ()), (1, ((0, 1),), ()), (2, ((0, 1),), ()), (3, ((0, 2),), ()), (4, ((0, 3),), ()),
            (5, ((0, 1),), ())),
            spots={("edge", 1, 0): hold(0), ("edge", 2, 0): hold(0, 0), ("edge", 4, 0): drop(0), ("before", 3): drop(0)})

    def test_ways_that_join_with_unlike_tokens(self):
        # Both branches lead to row 1, with rooms of unlike sizes.
        program = program_of(
            ("match", 0, (((1, 2), 1), ((), 1))), ("make", 3, "T0", (), 2), ("give", 3), params=("T",), result="T",
            kinds=SIZE_KINDS)
        freed = {("edge", 0, 0): drop(1, 2) + free(0, 2)}
        self.wrong(program, (0,), ("token", 0), freed, {0: 0, 1: 0})
        self.wrong(program, (1, 0), ("token", 0), freed, {0: 0})
        self.wrong(program, (1,), ("free", 0), {("edge", 0, 0): drop(1, 2), ("before", 1): free(0, 2)}, {0: 0})
        self.wrong(program, (0,), ("free", 0), {("edge", 0, 0): drop(1, 2), ("before", 1): free(0, 0)}, {0: 0})

    def test_branches_to_the_same_row(self):
        program = program_of(("less", 1, 1, 1, 1), ("give", 0), params=("List", "number"), result="List")
        self.wrong(program, (0,), ("left", 0), {("edge", 0, 0): hold(0)})
        self.wrong(program, (1,), ("left", 0), {("edge", 0, 1): hold(0)})
        self.wrong(program, (1,), ("use", 0), {("edge", 0, 1): drop(0)})

    def test_the_longest_first_way(self):
        # Sixty rows: the loop leads from row 58 back to row 0, and each way to the give takes 59 entries.
        rows = [("add", 1, 1, 1, at + 1) for at in range(58)] + [("less", 1, 1, 0, 59), ("give", 0)]
        program = program_of(*rows, params=("List", "number"), result="List")
        self.wrong(program, (0,) * 59 + (0,) * 58 + (1,), ("left", 0), {("edge", 58, 0): hold(0)})
        self.wrong(program, (0,) * 118, ("drop", 0), {("edge", 58, 0): drop(0)})
        self.wrong(program, (0,) * 58 + (1,), ("left", 0), {("edge", 58, 1): hold(0)})


class TablesTest(JudgeTest):
    def test_row_0_is_told_behind_the_entry(self):
        self.right(TWO, ((0, ((0, 3), (1, 1)), ()),), spots={("entry",): hold(0, 0), ("before", 0): drop(0, 1, 0)})

    def test_rows_are_told_ahead_of_their_deeds(self):
        self.right(NUMBER, ((0, ((0, 1), (1, 1)), ()), (1, ((1, 3),), ())),
                   spots={("before", 0): hold(1) + drop(0), ("edge", 0, 0): hold(1), ("before", 1): drop(1) * 3})

    def test_all_functions(self):
        self.assertEqual(judge(LIST_PROGRAM, placed(LIST_PROGRAM)), ("right", (
            ((0, ((0, 1), (1, 1)), ()), (1, ((1, 1), (4, 1)), ()), (2, ((1, 1),), ()), (3, ((1, 1), (4, 1)), ()),
             (4, ((5, 1),), ())),
            ((0, ((0, 1),), ()), (1, ((2, 1),), ()), (2, (), ()), (3, (), ()), (4, (), ())),
            ((0, ((0, 1),), ()), (1, ((3, 1),), ()), (2, (), ()), (3, (), ()), (4, (), ()), (5, (), ()), (6, (), ())),
            ((0, ((0, 1),), ()), (1, (), ()), (2, ((5, 1),), ()), (3, ((0, 1),), ()), (4, ((5, 1),), ())),
            ((0, ((0, 1),), ()),))))

    def test_tokens_across_rows(self):
        # Token 1 is kept by the first match, token 0 by the second one.
        placing = placing_of(PAIRS, {("edge", 0, 1): free(1, 0), ("edge", 1, 1): free(0, 0)}, {0: 1, 1: 0, 2: 0, 3: 1, 6: 1})
        told = judge(PAIRS, placing)
        self.assertEqual(told[0], "right")
        self.assertEqual([tokens for _, _, tokens in told[1][0]],
                         [(), ((1, 2),), ((0, 2), (1, 2)), ((1, 2),), (), (), ((1, 2),), ()])

    def test_results_are_plain(self):
        def plain(thing):
            return all(map(plain, thing)) if type(thing) is tuple else type(thing) in (int, str)
        for told in (judge(PAIRS, bare(PAIRS)), judge(LIST_PROGRAM, placed(LIST_PROGRAM)), judge(GIVE, bare(GIVE)),
                     judge(PAIRS, with_token(bare(PAIRS), 0, 2, 5))):
            self.assertTrue(plain(told))


class ArgumentsTest(unittest.TestCase):
    def test_wrong_programs(self):
        for program in ODD + (GIVE[1],):
            with self.assertRaises(BadProgram):
                judge(program, bare(GIVE))
        with self.assertRaises(NotChecked) as context:
            judge(program_of(("give", 0)), bare(GIVE))
        self.assertEqual(context.exception.what, ("unset", "f", 0))

    def test_wrong_placings(self):
        for placing in ODD + (bare(TWO) * 2, bare(NUMBER), list(bare(GIVE))):
            with self.assertRaises(BadPlacing):
                judge(GIVE, placing)

    def test_by_names(self):
        self.assertEqual(judge(placing=bare(GIVE), program=GIVE), ("right", (((0, ((0, 1),), ()),),)))

    def test_kinds_of_many_sorts(self):
        program = program_of(
            ("match", 0, (((), 1), ((1, 2, 3), 2), ((2,), 1))), ("make", 4, "Leaf", (), 3),
            ("make", 4, "Node", (3, 2, 1), 3), ("give", 4), params=("Tree",), result="Tree", kinds=MANY_KINDS)
        self.assertEqual(judge(program, bare(program)), ("right", ((
            (0, ((0, 1),), ()), (1, (), ()), (2, ((1, 1), (3, 1)), ()), (3, ((4, 1),), ())),)))


if __name__ == "__main__":
    unittest.main()
