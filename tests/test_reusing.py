"""[17]: rooms that are used anew, in plain functions."""

import unittest

from justfreed.checks import check
from justfreed.errors import BadProgram, NotChecked, TooGreat
from justfreed.judging import is_placing, judge
from justfreed.placing import placed
from justfreed.rooms import reusing
from tests.placings import bare, drop, free, hold, placing_of
from tests.samples import CHAIN_KINDS, JOIN, LIST_PROGRAM, LOOP, ODD, PAIRS, SIZE_KINDS, chain, program_of

class ReusingTest(unittest.TestCase):
    def told(self, program, spots, tokens):
        """Expects the deeds and tokens of the first function, and that the placing is right."""
        placing = reusing(program)
        self.assertEqual(placing[0], placing_of(program, spots, tokens)[0])
        self.assertIs(is_placing(program, placing), True)
        self.assertEqual(judge(program, placing)[0], "right")

    def as_told(self, program):
        self.assertIsNone(check(program))
        self.assertEqual(reusing(program), placed(program))


class RoomsTest(ReusingTest):
    def test_one_room(self):
        program = program_of(
            ("match", 0, (((1, 2), 1), ((), 3))), ("make", 3, "T2", (2, 1), 2), ("give", 3), ("make", 3, "T0", (), 4),
            ("give", 3), params=("T",), result="T", kinds=SIZE_KINDS)
        self.told(program, {}, {0: 0, 1: 0, 3: 0})

    def test_a_room_that_is_used_on_one_branch_alone(self):
        program = program_of(
            ("match", 0, (((1, 2), 1), ((), 3))), ("make", 3, "T2", (2, 1), 2), ("give", 3), ("give", 4),
            params=("T", "number", "number", "number", "T"), result="T", kinds=SIZE_KINDS)
        self.told(program, {("edge", 0, 0): drop(4), ("edge", 0, 1): free(0, 0)}, {0: 0, 1: 0})

    def test_a_room_that_is_used_on_no_branch(self):
        # Made is what has another size on each branch, or there is no make.
        program = program_of(
            ("match", 0, (((1, 2), 1), ((), 3))), ("make", 3, "T0", (), 2), ("give", 3), ("make", 3, "T2", (4, 5), 4),
            ("give", 3), params=("T", "number", "number", "number", "S", "S"), result="T", kinds=SIZE_KINDS)
        self.told(program, {("edge", 0, 0): drop(1, 2, 4, 5)}, {})
        self.as_told(program)
        program = program_of(("match", 0, (((1, 2), 1), ((), 2))), ("give", 1), ("make", 3, "S0", (), 3), ("give", 3),
                             params=("T",), result="S", kinds=SIZE_KINDS)
        self.told(program, {("edge", 0, 0): drop(2) + free(0, 2)}, {0: 0, 2: 0})
        program = program_of(("match", 0, (((1, 2), 1), ((), 2))), ("give", 1), ("make", 3, "S1", (4,), 3), ("give", 3),
                             params=("T", "number", "number", "number", "number"), result="S", kinds=SIZE_KINDS)
        self.as_told(program)

    def test_a_make_ahead_of_the_match(self):
        program = program_of(
            ("make", 3, "T0", (), 1), ("match", 0, (((1, 2), 2), ((), 3))), ("give", 3), ("give", 3),
            params=("T",), result="T", kinds=SIZE_KINDS)
        self.as_told(program)

    def test_a_room_of_each_size(self):
        rows = [("match", 0, tuple((tuple(range(1, 1 + size)), 1 + 2 * size) for size in range(5)))]
        for size in range(5):
            rows += [("make", 0, f"S{size}", tuple(range(1, 1 + size)), 2 + 2 * size), ("give", 0)]
        program = program_of(*rows, params=("S",), result="S", kinds=SIZE_KINDS)
        self.told(program, {}, {0: 0, 1: 0, 3: 0, 5: 0, 7: 0, 9: 0})

    def test_rooms_of_unlike_sizes(self):
        # A list's cell and a tree's: the first make fits the second match's room, the second one the first's.
        kinds = (("A", (("A1", ("number",)),)), ("B", (("B2", ("number", "number")),)), ("C", (("C3", ("number",) * 3),)))
        rows = (("match", 0, (((3,), 1),)), ("match", 1, (((4, 5), 2),)), ("make", 6, "B2", (4, 5), 3),
                ("make", 7, "A1", (3,), 4), ("make", 8, "C3", (3, 4, 5), 5), ("make", 9, "A1", (3,), 6), ("give", 6))
        program = program_of(*rows, params=("A", "B"), result="B", kinds=kinds)
        self.told(program, {("edge", 3, 0): drop(7), ("edge", 4, 0): drop(8), ("edge", 5, 0): drop(9)},
                  {0: 0, 1: 1, 2: 1, 3: 0})

    def test_other_kinds_rooms_of_the_same_size(self):
        kinds = (("A", (("A1", ("number",)),)), ("B", (("B1", ("A",)),)))
        rows = (("match", 0, (((1,), 1),)), ("make", 2, "A1", (1,), 2), ("make", 3, "B1", (2,), 3), ("give", 3))
        program = program_of(*rows, params=("A",), result="B", kinds=kinds)
        self.told(program, {}, {0: 0, 1: 0})


class EldestTest(ReusingTest):
    def test_the_eldest_one_first(self):
        self.told(chain(2, 1), {}, {0: 0, 2: 0})
        self.told(chain(2, 2), {}, {0: 0, 1: 1, 2: 0, 3: 1})
        self.told(chain(2, 3), {}, {0: 0, 1: 1, 2: 0, 3: 1})
        self.told(chain(4, 3), {}, {0: 0, 1: 1, 2: 2, 4: 0, 5: 1, 6: 2})
        self.told(chain(1, 1), {}, {0: 0, 1: 0})
        self.told(chain(3, 0), {}, {})
        self.told(chain(0, 3), {}, {})

    def test_the_eldest_one_whatever_its_number(self):
        # The third match gets token 0 again, while the second one's is there, which is the eldest then.
        rows = (("match", 0, (((1,), 1),)), ("match", 1, (((2,), 2),)), ("make", 3, "V1", (2,), 3),
                ("match", 3, (((4,), 4),)), ("make", 5, "V1", (4,), 5), ("make", 5, "V1", (5,), 6), ("give", 5))
        program = program_of(*rows, params=("V",), result="V", kinds=CHAIN_KINDS)
        self.told(program, {}, {0: 0, 1: 1, 2: 0, 3: 0, 4: 1, 5: 0})

    def test_numbers_are_the_lowest_ones(self):
        # Token 0 is used up ahead of the third match, token 1 is not.
        rows = (("match", 0, (((1,), 1),)), ("match", 1, (((2,), 2),)), ("match", 2, (((3,), 3),)), ("make", 4, "V1", (3,), 4),
                ("match", 4, (((5,), 5),)), ("make", 6, "V1", (5,), 6), ("make", 6, "V1", (6,), 7),
                ("make", 6, "V1", (6,), 8), ("give", 6))
        program = program_of(*rows, params=("V",), result="V", kinds=CHAIN_KINDS)
        self.told(program, {}, {0: 0, 1: 1, 2: 2, 3: 0, 4: 0, 5: 1, 6: 2, 7: 0})

    def test_a_room_that_is_not_kept_has_no_number(self):
        # The first match's room fits no make.
        kinds = (("A", (("A1", ("V",)), ("A2", ("V", "V")))), ("V", (("V1", ("V",)), ("V0", ()))))
        rows = (("match", 0, (((1,), 1), ((1, 2), 4))), ("match", 1, (((3,), 2), ((), 6))), ("make", 4, "V0", (), 3),
                ("give", 4), ("match", 1, (((3,), 5), ((), 7))), ("give", 3), ("make", 3, "V0", (), 8), ("give", 2),
                ("give", 3))
        program = program_of(*rows, params=("A",), result="V", kinds=kinds)
        self.told(program, {("edge", 1, 0): drop(3) + free(0, 1), ("edge", 4, 0): drop(2)}, {1: 0, 6: 0})

    def test_on_all_branches_by_what_one_of_them_uses(self):
        # The make on the first branch uses the first match's room, that on the second one the second match's.
        kinds = (("A", (("A1", ("B",)), ("A2", ("B", "B")))), ("B", (("B1", ("B",)), ("B2", ("B", "B")), ("B0", ()))))
        rows = (("match", 0, (((1,), 1), ((1, 2), 8))),
                ("match", 1, (((3,), 2), ((3, 4), 4), ((), 6))),
                ("make", 5, "B1", (3,), 3), ("give", 5),
                ("make", 5, "B2", (3, 4), 5), ("give", 5),
                ("make", 5, "B0", (), 7), ("give", 5),
                ("make", 5, "B1", (1,), 9), ("make", 5, "B2", (5, 2), 10), ("give", 5))
        program = program_of(*rows, params=("A",), result="B", kinds=kinds)
        self.told(program, {("edge", 1, 0): free(1, 1), ("edge", 1, 1): free(0, 1), ("edge", 1, 2): free(0, 1)},
                  {0: 0, 1: 1, 2: 0, 4: 1, 6: 1, 9: 0})


class FreesTest(ReusingTest):
    KINDS = (("A", (("A1", ("A",)), ("A2", ("A", "A")), ("A0", ()))),)

    def test_freed_where_no_way_on_uses_it(self):
        # Of the less's two nexts one leads to a make.
        rows = (("match", 0, (((2,), 1),)), ("less", 1, 1, 2, 4), ("make", 3, "V1", (2,), 3), ("give", 3), ("give", 2))
        program = program_of(*rows, params=("V", "number"), result="V", kinds=CHAIN_KINDS)
        self.told(program, {("edge", 1, 1): free(0, 1)}, {0: 0, 2: 0})

    def test_behind_the_drops(self):
        rows = (("match", 0, (((3,), 1),)), ("less", 1, 1, 2, 4), ("make", 4, "V1", (3,), 3), ("give", 4), ("give", 2))
        program = program_of(*rows, params=("V", "number", "V"), result="V", kinds=CHAIN_KINDS)
        self.told(program, {("edge", 1, 0): drop(2), ("edge", 1, 1): drop(3) + free(0, 1)}, {0: 0, 2: 0})

    def test_several_by_tokens_ascending(self):
        # On the second next the first match's token 1 and the second one's token 0 are there.
        rows = (("match", 0, (((1,), 1),)), ("match", 1, (((2,), 2),)), ("make", 3, "V1", (2,), 3),
                ("match", 3, (((4,), 4),)), ("less", 9, 9, 5, 7), ("make", 5, "V1", (4,), 6), ("make", 5, "V1", (5,), 8),
                ("give", 4), ("give", 5))
        rows = (("number", 9, 0, 9),) + rows[1:] + (rows[0],)
        program = program_of(*rows, params=("V",), result="V", kinds=CHAIN_KINDS)
        self.told(program, {("edge", 4, 1): free(0, 1) + free(1, 1)}, {9: 0, 1: 1, 2: 0, 3: 0, 5: 1, 6: 0})

    def test_freed_with_the_size_of_its_branch(self):
        # Behind each branch a less leads to a make of the branch's size, or to a give.
        rows = (("match", 0, (((2,), 1), ((2, 3), 4), ((), 7))),
                ("less", 1, 1, 2, 3), ("make", 4, "A1", (2,), 10), ("give", 2),
                ("less", 1, 1, 5, 6), ("make", 4, "A2", (3, 2), 11), ("give", 2),
                ("less", 1, 1, 8, 9), ("make", 4, "A0", (), 12), ("make", 4, "A1", (5,), 13),
                ("give", 4), ("give", 4), ("give", 4), ("give", 4))
        program = program_of(*rows, params=("A", "number", "number", "number", "number", "A"), result="A", kinds=self.KINDS)
        self.told(program, {
            ("edge", 0, 0): drop(5), ("edge", 0, 1): drop(5), ("edge", 1, 1): free(0, 1), ("edge", 4, 1): drop(3) + free(0, 2),
            ("edge", 7, 0): drop(5), ("edge", 7, 1): free(0, 0)}, {0: 0, 2: 0, 5: 0, 8: 0})

    def test_freed_on_another_match_s_edges(self):
        # The second match's branches lead to a use of the first one's room, and of its own.
        rows = (("match", 0, (((1,), 1),)), ("match", 2, (((), 2), ((3,), 4))), ("make", 4, "V1", (1,), 3), ("give", 4),
                ("make", 4, "W1", (3,), 5), ("match", 4, (((), 6), ((5,), 7))), ("give", 1), ("make", 6, "V1", (1,), 8),
                ("give", 6))
        program = program_of(*rows, params=("V", "number", "W"), result="V", kinds=CHAIN_KINDS)
        # Both makes of size 1 on the second branch find a room: the eldest one is the first match's.
        self.told(program, {("edge", 1, 0): free(1, 0), ("edge", 5, 0): free(1, 1), ("edge", 5, 1): drop(5)},
                  {0: 0, 1: 1, 2: 0, 4: 0, 7: 1})

    def test_holds_of_the_told_placing_stay(self):
        rows = (("match", 0, (((1,), 1),)), ("make", 2, "V1", (0,), 2), ("make", 2, "V1", (2,), 3), ("give", 2))
        program = program_of(*rows, params=("V",), result="V", kinds=CHAIN_KINDS)
        self.told(program, {("before", 0): hold(0), ("edge", 0, 0): drop(1)}, {0: 0, 1: 0})


class PlainTest(ReusingTest):
    def test_two_ways_to_a_row(self):
        self.as_told(PAIRS)
        self.as_told(JOIN)
        rows = (("match", 0, (((1, 2), 1), ((), 2))), ("make", 3, "T2", (2, 1), 3), ("make", 3, "T0", (), 3), ("give", 3))
        self.as_told(program_of(*rows, params=("T",), result="T", kinds=SIZE_KINDS))

    def test_two_branches_to_a_row(self):
        rows = (("match", 0, (((1,), 1),)), ("less", 2, 2, 2, 2), ("make", 1, "V1", (1,), 3), ("give", 1))
        self.as_told(program_of(*rows, params=("V", "number", "number"), result="V", kinds=CHAIN_KINDS))
        rows = (("match", 0, (((1,), 1),)), ("less", 2, 2, 2, 4), ("make", 1, "V1", (1,), 3), ("give", 1), ("give", 1))
        self.told(program_of(*rows, params=("V", "number", "number"), result="V", kinds=CHAIN_KINDS),
                  {("edge", 1, 1): free(0, 1)}, {0: 0, 2: 0})

    def test_loops(self):
        self.as_told(LOOP)
        # Back to row 0, and to a row further on.
        rows = (("match", 0, (((1,), 1),)), ("make", 0, "V1", (1,), 2), ("less", 2, 2, 0, 3), ("give", 0))
        self.as_told(program_of(*rows, params=("V", "number", "number"), result="V", kinds=CHAIN_KINDS))
        rows = (("add", 2, 2, 2, 1), ("match", 0, (((1,), 2),)), ("make", 0, "V1", (1,), 3), ("less", 2, 2, 1, 4), ("give", 0))
        self.as_told(program_of(*rows, params=("V", "number", "number"), result="V", kinds=CHAIN_KINDS))

    def test_plain_functions_beside_others(self):
        placing = reusing(LIST_PROGRAM)
        told = placed(LIST_PROGRAM)
        self.assertEqual(told, bare(LIST_PROGRAM))
        self.assertEqual(placing[1:], told[1:])
        self.assertEqual(placing[0], placing_of(LIST_PROGRAM, {("edge", 0, 0): free(0, 0)}, {0: 0, 1: 0})[0])

    def test_rows_in_any_order(self):
        rows = (("number", 9, 0, 3), ("give", 2), ("make", 2, "V1", (1,), 1), ("match", 0, (((1,), 2),)))
        self.told(program_of(*rows, params=("V",), result="V", kinds=CHAIN_KINDS), {}, {3: 0, 2: 0})


class TooGreatTest(ReusingTest):
    def great(self, program):
        self.assertIsNone(check(program))
        with self.assertRaises(TooGreat):
            reusing(program)

    def test_sixteen_at_once(self):
        tokens = {at: at for at in range(16)}
        self.told(chain(16, 16), {}, {**tokens, **{16 + at: at for at in range(16)}})
        self.told(chain(16, 40), {}, {**tokens, **{16 + at: at for at in range(16)}})

    def test_seventeen_at_once(self):
        self.great(chain(17, 17))
        self.great(chain(25, 17))
        self.great(chain(20, 30))

    def test_those_that_are_not_kept_do_not_count(self):
        tokens = {at: at for at in range(16)}
        self.told(chain(17, 16), {}, {**tokens, **{17 + at: at for at in range(16)}})
        self.told(chain(28, 16), {}, {**tokens, **{28 + at: at for at in range(16)}})

    def test_seventeen_one_behind_the_other(self):
        rows = []
        for at in range(17):
            rows += [("match", 0, (((1,), 3 * at + 1),)), ("make", 0, "V1", (1,), 3 * at + 2), ("number", 1, 0, 3 * at + 3)]
        self.told(program_of(*rows, ("give", 0), params=("V",), result="V", kinds=CHAIN_KINDS), {},
                  {3 * at + step: 0 for at in range(17) for step in (0, 1)})

    def forked(self, many):
        """So many matches; then one whose first branch uses its own room, and whose second one those of all others."""
        rows = [("make", 31, "W0", (), 1)]
        rows += [("match", at, (((at + 1,), at + 2),)) for at in range(many)]
        rows += [("match", 31, (((), many + 2), ((30,), many + 4))), ("make", 29, "W0", (), many + 3), ("give", many)]
        rows += [("make", many, "V1", (many,), many + 5 + at) for at in range(many)]
        return program_of(*rows, ("give", many), params=("V",), result="V", kinds=CHAIN_KINDS)

    def test_those_made_on_an_edge_count_together_with_those_freed_there(self):
        frees = tuple(("free", token, 1) for token in range(15))
        self.told(self.forked(15), {
            ("edge", 16, 0): frees, ("edge", 16, 1): drop(30) + free(15, 1), ("edge", 17, 0): drop(29)},
            {**{1 + at: at for at in range(15)}, 16: 15, 17: 15, **{19 + at: at for at in range(15)}})
        self.great(self.forked(16))

    def test_in_a_later_function(self):
        kinds, (function,) = chain(17, 17)
        first = ("a",) + chain(16, 16)[1][0][1:]
        self.great((kinds, (first, function)))
        self.great((kinds, (function, first)))

    def test_functions_that_are_not_plain_do_not_count(self):
        # Both nexts of the row ahead of the give lead there.
        kinds, ((name, params, result, rows),) = chain(17, 17)
        rows = rows[:-1] + (("number", 31, 0, 35), ("less", 31, 31, 36, 36), rows[-1])
        self.as_told((kinds, ((name, params, result, rows),)))

    def test_wrong_programs(self):
        for program in ODD + (LIST_PROGRAM[1], list(LIST_PROGRAM)):
            with self.assertRaises(BadProgram):
                reusing(program)
        with self.assertRaises(NotChecked) as context:
            reusing(program_of(("give", 0)))
        self.assertEqual(context.exception.what, ("unset", "f", 0))
        self.assertEqual(reusing(program=JOIN), placed(JOIN))


if __name__ == "__main__":
    unittest.main()
