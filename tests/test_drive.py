"""[20] and [21]: what the machine does, row by row and deed by deed; what it counts; its faults, and where it stops."""

import unittest

from justfreed.checks import check
from justfreed.errors import BadArgs, BadLimit, BadName, BadPlacing, BadProgram, NotChecked
from justfreed.judging import judge
from justfreed.machine import drive, look
from justfreed.placing import placed
from justfreed.rooms import reusing
from justfreed.running import run
from tests.placings import bare, drop, free, hold, placing_of, with_deeds
from tests.samples import BOTH, CALLS, DEEP, GROWS, KEEP, LIST_PROGRAM, ODD, PAIR, SIZE_KINDS, SIZES, TAIL, TWICE, cons, program_of

ALL = 100000
NIL = ("Nil",)


class DriveTest(unittest.TestCase):
    def ends(self, program, placing, args, result, counts, most=ALL):
        self.assertIsNone(check(program))
        self.assertEqual(drive(program, placing, "f", args, most), ("ended", result, counts))
        self.assertEqual(drive(program, placing, "f", args, counts[0]), ("ended", result, counts))

    def faults(self, program, placing, args, word, counts, most=ALL):
        self.assertIsNone(check(program))
        self.assertEqual(drive(program, placing, "f", args, most), ("fault", word, counts))


class RowsTest(DriveTest):
    def test_numbers(self):
        for number in (0, -5, 10 ** 12, -10 ** 12):
            self.ends(program_of(("number", 3, number, 1), ("give", 3)), (((), (((), None, ((),)), ((), None, ()))),), (),
                      number, (2, 0, 0, 0, 0, 0, 0))

    def test_sums_and_differences(self):
        great = 10 ** 12
        for word, one, other, result in (
                ("add", 2, 3, 5), ("sub", 2, 3, -1), ("add", great, 1, -great), ("sub", -great, 1, great),
                ("add", great, great, -1), ("sub", -great, great, 1), ("add", -great, -great, 1), ("add", -great, great, 0)):
            program = program_of((word, 2, 0, 1, 1), ("give", 2), params=("number", "number"))
            self.ends(program, bare(program), (one, other), result, (2, 0, 0, 0, 0, 0, 0))
        program = program_of(("sub", 0, 1, 0, 1), ("give", 0), params=("number", "number"))
        self.ends(program, bare(program), (3, 10), 7, (2, 0, 0, 0, 0, 0, 0))

    def test_less(self):
        program = program_of(("less", 0, 1, 1, 2), ("give", 1), ("number", 1, 9, 1), params=("number", "number"))
        for one, other, result, rows in ((1, 2, 2, 2), (2, 2, 9, 3), (3, 2, 9, 3), (-3, -2, -2, 2)):
            self.ends(program, bare(program), (one, other), result, (rows, 0, 0, 0, 0, 0, 0))

    def test_make(self):
        program = program_of(("make", 1, "Cons", (2, 0), 1), ("make", 1, "Cons", (2, 1), 2), ("give", 1),
                             params=("List", "List", "number"), result="List")
        self.ends(program, bare(program), (NIL, cons([1]), 5), cons([5, 5]), (3, 0, 0, 2, 0, 5, 5))

    def test_match_of_a_cell_with_the_count_1(self):
        self.ends(TAIL, bare(TAIL), (cons([7, 8]),), cons([8]), (2, 0, 0, 0, 0, 3, 2))
        self.ends(TAIL, bare(TAIL), (NIL,), NIL, (3, 0, 0, 1, 0, 1, 1))

    def test_match_of_a_cell_with_a_greater_count(self):
        more = placing_of(TAIL, {("entry",): hold(0, 0)})
        self.ends(TAIL, more, (cons([7, 8]),), cons([8]), (2, 2, 0, 0, 0, 3, 3))
        # The rest has the count 2 then, so that one drop of it lets nothing go, and another one the rest.
        for many, there in ((1, 3), (2, 1)):
            placing = with_deeds(more, 0, ("edge", 0, 1), drop(*(2,) * many))
            word, result, counts = drive(TAIL, placing, "f", (cons([7, 8]),), 1)
            self.assertEqual((word, result, counts), ("on", None, (1, 2, many, 0, 0, 3, there)))

    def test_match_holds_a_cell_once_for_each_field(self):
        # A cell in both fields; the outer one is held twice, so the inner one has the count 3 behind the match.
        inner = placing_of(PAIR, {("before", 1): hold(2)})
        program = program_of(("make", 2, "T2", (0, 0), 1), ("match", 2, (((3, 4), 2), ((), 3))), ("give", 4), ("give", 1),
                             params=("S", "S"), result="S", kinds=SIZE_KINDS)
        for many, there in ((1, 3), (2, 3), (3, 2)):
            placing = with_deeds(inner, 0, ("edge", 1, 0), drop(*(3,) * many))
            self.assertEqual(drive(program, placing, "f", (("S1", 5), ("S0",)), 2), ("on", None, (2, 1, many, 1, 0, 3, there)))

    def test_call_and_give_change_no_count(self):
        self.ends(CALLS, bare(CALLS), (cons([1]),), cons([1]), (4, 0, 0, 0, 0, 2, 2))

    def test_call_with_one_register_twice(self):
        program = program_of(("call", 1, "g", (0, 0), 1), ("give", 1), params=("List",), result="List",
                             others=(("g", ("List", "List"), "List", (("give", 1),)),))
        told = placed(program)
        self.assertEqual(judge(program, told)[0], "right")
        self.ends(program, told, (cons([1]),), cons([1]), (3, 1, 1, 0, 0, 2, 2))
        self.ends(program, bare(program), (cons([1]),), cons([1]), (3, 0, 0, 0, 0, 2, 2))

    def test_called_rows_come_ahead_of_what_stands_behind_the_call(self):
        spots = {("edge", 0, 0): drop(1) + hold(1)}
        placing = placing_of(CALLS, spots)
        self.faults(CALLS, placing, (cons([1]),), "gone", (3, 0, 1, 0, 0, 2, 0))
        for most in (0, 1, 2):
            self.assertEqual(drive(CALLS, placing, "f", (cons([1]),), most), ("on", None, (most, 0, 0, 0, 0, 2, 2)))

    def test_a_register_keeps_what_it_has(self):
        # Register 0 has the cell still that was put into another one.
        program = program_of(("make", 1, "Cons", (2, 0), 1), ("make", 1, "Cons", (2, 0), 2), ("give", 0),
                             params=("List", "List", "number"), result="List")
        self.ends(program, bare(program), (cons([3]), NIL, 0), cons([3]), (3, 0, 0, 2, 0, 5, 5))


class DeedsTest(DriveTest):
    def test_holds_and_drops(self):
        for deeds, counts in (
                ((), (2, 0, 0, 0, 0, 3, 3)), (hold(0), (2, 1, 0, 0, 0, 3, 3)), (hold(0) + drop(0), (2, 1, 1, 0, 0, 3, 3)),
                (hold(0, 0) + drop(0, 0), (2, 2, 2, 0, 0, 3, 3)), (hold(0) * 60, (2, 60, 0, 0, 0, 3, 3))):
            for spot in (("entry",), ("before", 0), ("edge", 0, 0), ("before", 1)):
                self.ends(KEEP, placing_of(KEEP, {spot: deeds}), (cons([1, 2]), 0), cons([1, 2]), counts)

    def test_each_spot_has_its_time(self):
        placing = placing_of(KEEP, {("entry",): hold(0), ("before", 0): hold(0), ("edge", 0, 0): hold(0), ("before", 1): hold(0)})
        for most, holds in ((0, 1), (1, 3)):
            self.assertEqual(drive(KEEP, placing, "f", (NIL, 0), most), ("on", None, (most, holds, 0, 0, 0, 1, 1)))
        self.ends(KEEP, placing, (NIL, 0), NIL, (2, 4, 0, 0, 0, 1, 1))

    def test_only_the_gone_edge_has_its_deeds_done(self):
        placing = placing_of(TAIL, {("edge", 0, 0): drop(0), ("edge", 0, 1): hold(2)})
        self.ends(TAIL, placing, (cons([7]),), NIL, (2, 1, 0, 0, 0, 2, 1))
        self.faults(TAIL, placing, (NIL,), "gone", (1, 0, 0, 0, 0, 1, 0))

    def test_a_tree_is_let_go(self):
        for numbers in ([], [1], [1] * 199):
            placing = placing_of(KEEP, {("before", 0): drop(0)})
            many = len(numbers) + 1
            self.faults(KEEP, placing, (cons(numbers), 0), "gone", (1, 0, 1, 0, 0, many, 0))

    def test_a_cell_that_is_held_elsewhere_stays(self):
        program = program_of(("make", 2, "T2", (0, 1), 1), ("give", 1), params=("S", "S"), result="S", kinds=SIZE_KINDS)
        for holds, there in (((), 0), (hold(0), 1), (hold(1), 1), (hold(0, 1), 2)):
            placing = placing_of(program, {("entry",): holds, ("edge", 0, 0): drop(2)})
            self.assertEqual(drive(program, placing, "f", (("S1", 3), ("S0",)), 1),
                             ("on", None, (1, len(holds), 1, 1, 0, 3, there)))

    def test_a_cell_in_two_fields_of_one_cell(self):
        for holds, there in ((0, 0), (1, 0), (2, 1)):
            placing = placing_of(BOTH, {("entry",): hold(0) * holds, ("edge", 0, 0): drop(1)})
            self.assertEqual(drive(BOTH, placing, "f", (("S1", 3),), 1), ("on", None, (1, holds, 1, 1, 0, 2, there)))

    def test_a_tree_that_shares_its_parts_is_let_go(self):
        # Each Node has the one ahead of it in both fields, so there are 2 ** 50 paths to the Leaf.
        kinds = (("Tree", (("Leaf", ()), ("Node", ("Tree", "Tree")))),)
        rows = [("make", 0, "Leaf", (), 1)] + [("make", 0, "Node", (0, 0), at + 2) for at in range(50)]
        program = program_of(*rows, ("number", 1, 5, 52), ("give", 1), kinds=kinds)
        told = placed(program)
        self.assertEqual(judge(program, told)[0], "right")
        self.ends(program, told, (), 5, (53, 50, 1, 51, 0, 51, 0))
        self.ends(program, bare(program), (), 5, (53, 0, 0, 51, 0, 51, 51))

    def test_inner_cells_that_went_are_passed_over(self):
        # The inner cell goes ahead of the outer one, by a drop in register 0, in which it is still.
        placing = placing_of(BOTH, {("edge", 0, 0): drop(0) + drop(1)})
        self.assertEqual(drive(BOTH, placing, "f", (("S1", 3),), 1), ("on", None, (1, 0, 2, 1, 0, 2, 0)))

    def test_match_of_a_cell_whose_inner_cells_went(self):
        placing = placing_of(PAIR, {("edge", 0, 0): hold(2) + drop(0), ("edge", 1, 0): drop(3)})
        self.faults(PAIR, placing, (("S1", 3), ("S0",)), "gone", (2, 1, 1, 1, 0, 3, 2))
        placing = placing_of(PAIR, {("edge", 0, 0): hold(2) + drop(0), ("edge", 1, 0): drop(4)})
        self.ends(PAIR, placing, (("S1", 3), ("S0",)), ("S0",), (3, 1, 2, 1, 0, 3, 2))


class TokensTest(DriveTest):
    def test_rooms_of_each_size_are_used_anew(self):
        placing = placing_of(SIZES, {}, {at: 4 for at in range(6)})
        for size in range(5):
            tree = (f"S{size}",) + (7,) * size
            self.ends(SIZES, placing, (tree,), tree, (3, 0, 0, 0, 1, 1, 1))
            # Without the token at the make the room is left in the token, of size 0 too.
            self.faults(SIZES, placing_of(SIZES, {}, {0: 4}), (tree,), "token", (2, 0, 0, 1, 0, 1, 1))
            # Without that at the match the make takes a new room.
            self.ends(SIZES, placing_of(SIZES, {}, {at: 4 for at in range(1, 6)}), (tree,), tree, (3, 0, 0, 1, 0, 1, 1))
            # The other tokens are others.
            unlike = placing_of(SIZES, {}, {at: 4 if at else 5 for at in range(6)})
            self.faults(SIZES, unlike, (tree,), "token", (2, 0, 0, 1, 0, 1, 1))

    def test_an_empty_token(self):
        placing = placing_of(SIZES, {("entry",): hold(0)}, {at: 4 for at in range(6)})
        for size in range(5):
            tree = (f"S{size}",) + (7,) * size
            self.ends(SIZES, placing, (tree,), tree, (3, 1, 0, 1, 0, 2, 2))

    def test_rooms_are_given_back(self):
        for size in range(5):
            tree = (f"S{size}",) + (7,) * size
            for deeds in (free(4, size), free(4, size) * 2, free(4, size) + free(4, 1) + free(5, 0)):
                placing = placing_of(SIZES, {("edge", 0, size): deeds}, {at: 4 for at in range(6)})
                # The token has no room then, so the make takes a new one.
                self.ends(SIZES, placing, (tree,), tree, (3, 0, 0, 1, 0, 1, 1))
            for wrong in range(5):
                if wrong != size:
                    placing = placing_of(SIZES, {("edge", 0, size): free(4, wrong)}, {0: 4})
                    self.faults(SIZES, placing, (tree,), "token", (1, 0, 0, 0, 0, 1, 0))

    def test_frees_of_tokens_without_a_room(self):
        for deeds in (free(0, 0), free(15, 4) * 60):
            for spot in (("entry",), ("before", 0), ("edge", 0, 0), ("before", 1)):
                self.ends(KEEP, placing_of(KEEP, {spot: deeds}), (NIL, 0), NIL, (2, 0, 0, 0, 0, 1, 1))
        # An empty token is freed with any size.
        placing = placing_of(SIZES, {("entry",): hold(0), ("edge", 0, 2): free(4, 3)}, {0: 4})
        self.ends(SIZES, placing, (("S2", 1, 1),), ("S2", 1, 1), (3, 1, 0, 1, 0, 2, 2))

    def test_the_token_used_up_can_be_used_again(self):
        placing = placing_of(TWICE, {}, {0: 3, 1: 3, 2: 3})
        self.faults(TWICE, placing, (cons([1, 2]), NIL), "token", (1, 0, 0, 0, 0, 4, 3))
        placing = placing_of(TWICE, {("edge", 0, 1): free(3, 2)}, {0: 3, 1: 3, 2: 3})
        self.ends(TWICE, placing, (cons([1, 2]), NIL), cons([1]), (4, 0, 0, 0, 1, 4, 3))
        # Empty tokens make no fault: behind the first match the rest has the count 2 as well.
        placing = placing_of(TWICE, {("entry",): hold(0)}, {0: 3, 1: 3, 2: 3})
        self.ends(TWICE, placing, (cons([1, 2]), NIL), cons([1]), (4, 1, 0, 1, 0, 5, 5))

    def test_tokens_are_a_calls_own(self):
        # f has a room in token 0 while g runs, which matches with a token 0 of its own.
        rows = (("match", 0, (((), 3), ((2, 3), 1))), ("call", 3, "f", (3, 1), 2), ("make", 1, "Cons", (2, 3), 3), ("give", 1))
        program = program_of(*rows, params=("List", "List"), result="List")
        placing = placing_of(program, {("edge", 0, 0): free(0, 0)}, {0: 0, 2: 0})
        self.ends(program, placing, (cons([1, 2, 3]), cons([4])), cons([1, 2, 3, 4]), (14, 0, 0, 0, 3, 6, 5))

    def test_rooms_that_came_back_are_not_told_apart(self):
        self.ends(SIZES, bare(SIZES), (("S2", 1, 2),), ("S2", 1, 2), (3, 0, 0, 1, 0, 1, 1))


class FaultsTest(DriveTest):
    ARGS = (cons([1, 2]), 0)

    def test_unset(self):
        for word in ("hold", "drop"):
            # Registers with a number, and with nothing.
            for r in (1, 2, 31):
                for spot, rows in ((("entry",), 0), (("before", 0), 0), (("edge", 0, 0), 1), (("before", 1), 1)):
                    for ahead in ((), hold(0), hold(0, 0) + drop(0)):
                        counts = (rows, ahead.count(("hold", 0)), ahead.count(("drop", 0)), 0, 0, 3, 3)
                        placing = placing_of(KEEP, {spot: ahead + ((word, r),) + hold(0)})
                        self.faults(KEEP, placing, self.ARGS, "unset", counts)
                        self.faults(KEEP, placing, self.ARGS, "unset", counts, rows + (spot[0] == "before"))

    def test_unset_until_it_is_set(self):
        self.faults(TAIL, placing_of(TAIL, {("before", 0): hold(2)}), (cons([1]),), "unset", (0, 0, 0, 0, 0, 2, 2))
        self.ends(TAIL, placing_of(TAIL, {("edge", 0, 1): hold(2)}), (cons([1]),), NIL, (2, 1, 0, 0, 0, 2, 1))
        self.faults(TAIL, placing_of(TAIL, {("edge", 0, 1): hold(1)}), (cons([1]),), "unset", (1, 0, 0, 0, 0, 2, 1))
        # A register that is set to a number has its tree no more.
        program = program_of(("number", 0, 3, 1), ("give", 0), params=("List",))
        self.ends(program, placing_of(program, {("before", 0): drop(0)}), (NIL,), 3, (2, 0, 1, 0, 0, 1, 0))
        self.faults(program, placing_of(program, {("edge", 0, 0): drop(0)}), (NIL,), "unset", (1, 0, 0, 0, 0, 1, 1))

    def test_gone_at_deeds(self):
        for word in ("hold", "drop"):
            for spot, rows in ((("entry",), 0), (("before", 0), 0), (("edge", 0, 0), 1), (("before", 1), 1)):
                placing = placing_of(KEEP, {spot: drop(0) + ((word, 0),) + hold(1)})
                self.faults(KEEP, placing, self.ARGS, "gone", (rows, 0, 1, 0, 0, 3, 0))
        # An inner cell went with the outer one; and the outer one is there still when the inner one went.
        placing = placing_of(PAIR, {("edge", 0, 0): drop(2) + hold(1)})
        self.faults(PAIR, placing, (("S0",), ("S0",)), "gone", (1, 0, 1, 1, 0, 3, 0))
        placing = placing_of(PAIR, {("edge", 0, 0): drop(1) + hold(2) + drop(1)})
        self.faults(PAIR, placing, (("S0",), ("S0",)), "gone", (1, 1, 1, 1, 0, 3, 2))

    def test_gone_at_rows(self):
        lists = (cons([1]), cons([2]), cons([3]))
        for row in (("make", 5, "Cons", (3, 0), 1), ("match", 0, (((), 1), ((3, 4), 1))), ("call", 5, "g", (1, 0, 2, 3), 1),
                    ("give", 0), ("call", 5, "g", (0, 1, 2, 3), 1), ("call", 5, "g", (2, 1, 0, 3), 1)):
            rows = (row,) if row[0] == "give" else (row, ("give", 1))
            program = program_of(*rows, params=("List", "List", "List", "number"), result="List",
                                 others=(("g", ("List", "List", "List", "number"), "List", (("give", 2),)),))
            for spot in (("entry",), ("before", 0)):
                placing = placing_of(program, {spot: drop(0)})
                self.faults(program, placing, lists + (0,), "gone", (0, 0, 1, 0, 0, 6, 4))

    def test_a_numbers_register_never_is_gone(self):
        # The cell that is let go has the serial 0, and the numbers are 0.
        for row in (("add", 1, 1, 2, 1), ("sub", 1, 2, 1, 1), ("less", 1, 2, 1, 1), ("make", 3, "Cons", (1, 3), 1),
                    ("call", 1, "g", (1, 2), 1)):
            program = program_of(row, ("give", 1), params=("List", "number", "number", "List"),
                                 others=(("g", ("number", "number"), "number", (("give", 1),)),))
            placing = placing_of(program, {("entry",): drop(0)})
            rows = 3 if row[0] == "call" else 2
            there = 2 if row[0] == "make" else 1
            self.ends(program, placing, (NIL, 0, 0, NIL), 0, (rows, 0, 1, there - 1, 0, 2, there))

    def test_a_token_with_a_room_at_a_match(self):
        placing = placing_of(TWICE, {}, {0: 0, 1: 0})
        self.faults(TWICE, placing, (cons([1, 2]), NIL), "token", (1, 0, 0, 0, 0, 4, 3))
        placing = placing_of(TWICE, {("edge", 1, 1): free(0, 2) + free(1, 2)}, {0: 0, 1: 1})
        self.ends(TWICE, placing, (cons([1, 2]), NIL), cons([1]), (4, 0, 0, 1, 0, 4, 3))

    def test_a_token_with_a_room_of_another_size_at_a_make(self):
        program = program_of(("match", 0, (((), 2), ((2, 3), 1))), ("make", 1, "Nil", (), 3),
                             ("make", 1, "Cons", (4, 1), 3), ("give", 1), params=("List", "List", "number", "number", "number"),
                             result="List")
        placing = placing_of(program, {}, {0: 2, 1: 2, 2: 2})
        for args in ((cons([1]), NIL, 0, 0, 5), (NIL, NIL, 0, 0, 5)):
            self.faults(program, placing, args, "token", (1, 0, 0, 0, 0, len(args[0]) // 2 + 2, len(args[0]) // 2 + 1))
        # A token without a room makes no fault.
        placing = placing_of(program, {("entry",): hold(0)}, {0: 2, 1: 2, 2: 2})
        self.ends(program, placing, (cons([1]), NIL, 0, 0, 5), NIL, (3, 1, 0, 1, 0, 4, 4))

    def test_a_token_with_a_room_at_a_give(self):
        for token in (0, 15):
            placing = placing_of(TAIL, {}, {0: token})
            self.faults(TAIL, placing, (cons([1]),), "token", (1, 0, 0, 0, 0, 2, 1))
            # A room of size 0 is one.
            self.faults(TAIL, placing, (NIL,), "token", (2, 0, 0, 1, 0, 1, 1))
            placing = placing_of(TAIL, {("entry",): hold(0)}, {0: token})
            self.ends(TAIL, placing, (cons([1]),), NIL, (2, 1, 0, 0, 0, 2, 2))

    def test_several_faults_in_one_row(self):
        # Registers ahead of tokens.
        program = program_of(("match", 0, (((), 2), ((2, 3), 1))), ("make", 1, "Nil", (), 3),
                             ("make", 1, "Cons", (4, 1), 3), ("give", 1), params=("List", "List", "number", "number", "number"),
                             result="List")
        args = (NIL, NIL, 0, 0, 5)
        self.faults(program, placing_of(program, {("before", 2): drop(1)}, {0: 2, 2: 2}), args, "gone", (1, 0, 1, 0, 0, 2, 0))
        placing = placing_of(TWICE, {("before", 1): drop(3)}, {0: 0, 1: 0})
        self.faults(TWICE, placing, (cons([1, 2]), NIL), "gone", (1, 0, 1, 0, 0, 4, 1))
        placing = placing_of(TAIL, {("before", 2): drop(2)}, {0: 3})
        self.faults(TAIL, placing, (cons([1]),), "gone", (1, 0, 1, 0, 0, 2, 0))
        # Deeds ahead of the row, and among them the first.
        for deeds, word in ((hold(9) + drop(0, 0), "unset"), (drop(0, 0) + hold(9), "gone"), (drop(0) + hold(9), "unset")):
            placing = placing_of(TAIL, {("before", 2): deeds}, {0: 3})
            drops = 1 if deeds[0] == ("drop", 0) and word == "unset" else 0
            self.faults(TAIL, with_deeds(placing, 0, ("entry",), hold(0)), (cons([1]),), word,
                        (1, 1, 1 if word == "gone" else drops, 0, 0, 2, 1 if drops or word == "gone" else 2))

    def test_frees_among_other_deeds(self):
        for deeds, word in ((free(3, 1) + drop(9), "token"), (drop(9) + free(3, 1), "unset"), (free(3, 2) + drop(9), "unset"),
                            (free(2, 1) + free(3, 0), "token")):
            placing = placing_of(TAIL, {("edge", 0, 1): deeds}, {0: 3})
            self.faults(TAIL, placing, (cons([1]),), word, (1, 0, 0, 0, 0, 2, 1))


class CountsTest(DriveTest):
    def test_a_row_that_faults_is_not_counted(self):
        placing = placing_of(KEEP, {("before", 1): drop(0)})
        self.faults(KEEP, placing, (NIL, 0), "gone", (1, 0, 1, 0, 0, 1, 0))
        placing = placing_of(KEEP, {("before", 1): hold(0, 9)})
        self.faults(KEEP, placing, (NIL, 0), "unset", (1, 1, 0, 0, 0, 1, 1))

    def test_a_row_whose_edges_deeds_fault_is_counted(self):
        placing = placing_of(KEEP, {("edge", 0, 0): hold(0, 9)})
        self.faults(KEEP, placing, (NIL, 0), "unset", (1, 1, 0, 0, 0, 1, 1))
        self.faults(KEEP, placing, (NIL, 0), "unset", (1, 1, 0, 0, 0, 1, 1), 1)
        program = program_of(("make", 2, "Cons", (1, 0), 1), ("give", 2), params=("List", "number"), result="List")
        self.faults(program, placing_of(program, {("edge", 0, 0): hold(9)}), (NIL, 0), "unset", (1, 0, 0, 1, 0, 2, 2))

    def test_a_call_at_whose_entry_a_deed_faults_is_counted(self):
        placing = placing_of(CALLS, {("entry",): hold(0, 7)}, index=1)
        self.faults(CALLS, placing, (NIL,), "unset", (1, 1, 0, 0, 0, 1, 1))
        self.faults(CALLS, placing, (NIL,), "unset", (1, 1, 0, 0, 0, 1, 1), 1)
        self.assertEqual(drive(CALLS, placing, "f", (NIL,), 0), ("on", None, (0, 0, 0, 0, 0, 1, 1)))

    def test_a_give_behind_which_the_waiting_calls_deeds_fault_is_counted(self):
        placing = placing_of(CALLS, {("edge", 0, 0): hold(1, 7)})
        self.faults(CALLS, placing, (NIL,), "unset", (3, 1, 0, 0, 0, 1, 1))
        self.faults(CALLS, placing, (NIL,), "unset", (3, 1, 0, 0, 0, 1, 1), 3)
        self.assertEqual(drive(CALLS, placing, "f", (NIL,), 2), ("on", None, (2, 0, 0, 0, 0, 1, 1)))

    def test_a_call_whose_args_are_gone_is_not_counted(self):
        placing = placing_of(CALLS, {("before", 0): drop(0), })
        self.faults(CALLS, placing, (NIL,), "gone", (0, 0, 1, 0, 0, 1, 0))

    def test_the_most_cells_at_once(self):
        # A cell is made, goes again, and another one is made.
        program = program_of(("make", 1, "Nil", (), 1), ("make", 1, "Nil", (), 2), ("give", 0), params=("List",), result="List")
        placing = placing_of(program, {("edge", 0, 0): drop(1), ("edge", 1, 0): drop(1)})
        self.ends(program, placing, (cons([1]),), cons([1]), (3, 0, 2, 2, 0, 3, 2))
        self.ends(program, bare(program), (cons([1]),), cons([1]), (3, 0, 0, 2, 0, 4, 4))
        placing = placing_of(program, {("entry",): drop(0)})
        self.faults(program, placing, (cons([1]),), "gone", (2, 0, 1, 2, 0, 2, 2))

    def test_counts_of_a_fault_in_the_entrys_deeds(self):
        for most in (0, 1, ALL):
            self.faults(KEEP, placing_of(KEEP, {("entry",): hold(0, 0) + drop(0, 1)}), (NIL, 0), "unset",
                        (0, 2, 1, 0, 0, 1, 1), most)


class StopsTest(DriveTest):
    def test_limits(self):
        args = (cons([3, 1, 2]),)
        word, result, counts = drive(LIST_PROGRAM, placed(LIST_PROGRAM), "sum", args, ALL)
        self.assertEqual((word, result), ("ended", 6))
        for most in range(counts[0]):
            told = drive(LIST_PROGRAM, placed(LIST_PROGRAM), "sum", args, most)
            self.assertEqual((told[0], told[1], told[2][0]), ("on", None, most))
            self.assertEqual(run(LIST_PROGRAM, "sum", args, most), ("on",))
        for most in (counts[0], counts[0] + 1):
            self.assertEqual(drive(LIST_PROGRAM, placed(LIST_PROGRAM), "sum", args, most), (word, result, counts))
            self.assertEqual(run(LIST_PROGRAM, "sum", args, most), (word, result))

    def test_it_stops_ahead_of_the_next_rows_before(self):
        placing = placing_of(KEEP, {("before", 0): hold(9), ("before", 1): hold(8)})
        self.assertEqual(drive(KEEP, placing, "f", (NIL, 0), 0), ("on", None, (0, 0, 0, 0, 0, 1, 1)))
        self.faults(KEEP, placing, (NIL, 0), "unset", (0, 0, 0, 0, 0, 1, 1), 1)
        placing = with_deeds(placing, 0, ("before", 0), ())
        self.assertEqual(drive(KEEP, placing, "f", (NIL, 0), 1), ("on", None, (1, 0, 0, 0, 0, 1, 1)))
        self.faults(KEEP, placing, (NIL, 0), "unset", (1, 0, 0, 0, 0, 1, 1), 2)

    def test_the_named_function_begins(self):
        for name, args, result in (("sum", (cons([4, 5]),), 9), ("count", (cons([4, 5, 6]), 6), 2), ("same", (NIL,), NIL),
                                   ("rev", (cons([1, 2]), cons([3])), cons([2, 1, 3])), ("sumloop", (cons([1, 2]),), 3)):
            for placing in (placed(LIST_PROGRAM), reusing(LIST_PROGRAM)):
                self.assertEqual(drive(LIST_PROGRAM, placing, name, args, ALL)[:2], ("ended", result))
        self.assertEqual(drive(LIST_PROGRAM, reusing(LIST_PROGRAM), "rev", (cons([1, 2]), cons([3])), ALL)[2],
                         (10, 0, 0, 0, 2, 5, 4))


class ResultsTest(DriveTest):
    def test_how_many_entries(self):
        told = placed(GROWS)
        self.assertEqual(judge(GROWS, told)[0], "right")
        for many in (0, 1, 1998, 1999, 2000, 2001, 30000):
            result = ("Cons", 1) * many + NIL if many * 2 + 1 <= 4000 else None
            self.ends(GROWS, told, (many,), result, (5 + 3 * many, 0, 0, many + 1, 0, many + 1, many + 1))

    def test_a_tree_that_shares_its_parts(self):
        kinds = (("Tree", (("Leaf", ()), ("Node", ("Tree", "Tree")))),)
        for many in (3, 11, 40):
            rows = [("make", 0, "Leaf", (), 1)] + [("make", 0, "Node", (0, 0), at + 2) for at in range(many)]
            program = program_of(*rows, ("give", 0), kinds=kinds, result="Tree")
            tree = ("Leaf",)
            for _ in range(min(many, 12)):
                tree = ("Node",) + tree + tree
            # 2 ** 12 - 1 entries are too many.
            self.ends(program, placed(program), (), tree if many == 3 else None, (many + 2, many, 0, many + 1, 0, many + 1, many + 1))

    def test_results_are_read_though_cells_went(self):
        program = program_of(("make", 2, "Cons", (1, 0), 1), ("give", 2), params=("List", "number"), result="List")
        placing = placing_of(program, {("edge", 0, 0): drop(0)})
        self.ends(program, placing, (cons([1, 2]), 7), cons([7, 1, 2]), (2, 0, 1, 1, 0, 4, 1))
        placing = placing_of(BOTH, {("edge", 0, 0): drop(0)})
        self.ends(BOTH, placing, (("S2", 1, 2),), ("T2", "S2", 1, 2, "S2", 1, 2), (2, 0, 1, 1, 0, 2, 1))

    def test_results_whose_cells_room_was_used_anew(self):
        # Register 1 is put into a cell that is made in its own room.
        program = program_of(("match", 1, (((), 3), ((2, 3), 1))), ("make", 4, "Cons", (2, 0), 2), ("give", 4), ("give", 0),
                             params=("List", "List"), result="List")
        placing = placing_of(program, {}, {0: 0, 1: 0})
        self.ends(program, placing, (cons([1]), cons([2])), cons([2, 1]), (3, 0, 0, 0, 1, 4, 4))


class DeepTest(DriveTest):
    def test_calls_thousands_deep(self):
        told = placed(DEEP)
        for many in (0, 1, 5000):
            self.ends(DEEP, told, (cons([1]), many), cons([1]), (4 + 6 * many, 0, 0, 0, 0, 2, 2))
        # In each call the list is held once more at the entry, and let go behind the call.
        placing = placing_of(DEEP, {("entry",): hold(0), ("before", 5): drop(0)})
        self.assertEqual(judge(DEEP, placing)[0], "wrong")
        self.ends(DEEP, placing, (cons([1]), 5000), cons([1]), (30004, 5001, 5001, 0, 0, 2, 2))

    def test_calls_without_end(self):
        program = program_of(("call", 0, "f", (0,), 1), ("give", 0), params=("List",), result="List")
        self.assertEqual(drive(program, placed(program), "f", (NIL,), ALL), ("on", None, (ALL, 0, 0, 0, 0, 1, 1)))

    def test_long_lists_are_let_go_at_once(self):
        kinds, (grows,) = GROWS
        f = ("f", ("number",), "number", (("call", 1, "grows", (0,), 1), ("give", 0)))
        program = (kinds, (f, ("grows",) + grows[1:]))
        told = placed(program)
        self.assertEqual(judge(program, told)[0], "right")
        many = 30000
        self.ends(program, told, (many,), many, (7 + 3 * many, 0, 1, many + 1, 0, many + 1, 0))


class ErrorsTest(DriveTest):
    GOOD = (KEEP, bare(KEEP), "f", (cons([1]), 5), 3)

    def refuses(self, at, things, error):
        """Each of the things in the place of one argument raises the error, whether or not those behind are right."""
        for thing in things:
            for function in (drive, look):
                for rest in (self.GOOD[at + 1:], (None,) * (4 - at)):
                    with self.assertRaises(error):
                        function(*self.GOOD[:at], thing, *rest)

    def test_programs_and_placings(self):
        self.assertEqual(drive(*self.GOOD)[0], "ended")
        self.refuses(0, ODD + (program_of(("give", 32)), list(KEEP)), BadProgram)
        self.refuses(0, (program_of(("give", 0)), program_of(("number", 1, 0, 0))), NotChecked)
        self.refuses(1, ODD + (bare(SIZES), bare(KEEP) * 2, placing_of(KEEP, {("entry",): hold(0) * 61}),
                               placing_of(KEEP, {}, {0: 3}), list(bare(KEEP))), BadPlacing)

    def test_names(self):
        self.refuses(2, ODD + ("g", "F", "List", ["f"], ("f",), 0), BadName)
        for name in ("f", "g"):
            self.assertEqual(drive(CALLS, bare(CALLS), name, (NIL,), 9)[:2], ("ended", NIL))

    def test_args(self):
        tree = cons([1])
        self.refuses(3, ODD + (
            (), (tree,), (tree, 5, 5), [tree, 5], (5, tree), (tree, True), (tree, None), (tree, 10 ** 12 + 1), (tree, (5,)), (list(tree), 5),
            (tree[:-1], 5), (tree + ("Nil",), 5), (("Cons", True, "Nil"), 5), (cons([1] * 200), 5)), BadArgs)
        self.assertEqual(drive(KEEP, bare(KEEP), "f", (cons([1] * 199), -10 ** 12), 5)[2], (2, 0, 0, 0, 0, 200, 200))

    def test_limits(self):
        self.refuses(4, ODD + (-1, ALL + 1, True, False, None, "5", (5,), 10 ** 30), BadLimit)
        for most, word in ((0, "on"), (1, "on"), (2, "ended"), (ALL, "ended")):
            self.assertEqual(drive(*self.GOOD[:4], most)[0], word)
            self.assertEqual(look(*self.GOOD[:4], most) is None, word == "ended")


if __name__ == "__main__":
    unittest.main()
