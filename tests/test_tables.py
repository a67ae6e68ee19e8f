"""[12]: is_table and is_wrong judge any object."""

import unittest

from justfreed.errors import BadPlacing, BadProgram, NotChecked
from justfreed.judging import is_table, is_wrong, judge
from justfreed.placing import placed
from justfreed.rooms import reusing
from tests.placings import bare, drop, free, hold, placing_of, with_deeds
from tests.samples import (
    GIVE, JOIN, LIST_PROGRAM, LOOP, NUMBER, ODD, PAIRS, SIZES, TWO, OwnList, Posing, part_at, paths, program_of, replaced)

RIGHT = (
    (GIVE, bare(GIVE)),
    (GIVE, placing_of(GIVE, {("entry",): hold(0), ("before", 0): drop(0)})),
    (JOIN, bare(JOIN)),
    (NUMBER, placing_of(NUMBER, {("entry",): drop(0, 1)})),
    (SIZES, placing_of(SIZES, {("edge", 0, 3): free(5, 3)}, {0: 5, 1: 5, 2: 5, 3: 5, 5: 5})),
    (LIST_PROGRAM, placed(LIST_PROGRAM)),
    (LIST_PROGRAM, reusing(LIST_PROGRAM)),
)


class IsTableTest(unittest.TestCase):
    def test_what_judge_tells(self):
        for program, placing in RIGHT:
            word, tables = judge(program, placing)
            self.assertEqual(word, "right")
            self.assertIs(is_table(program, placing, tables), True)
            self.assertIs(is_table(program, placing, ("right", tables)), False)

    def test_something_else_at_each_place(self):
        for program, placing in RIGHT:
            _, tables = judge(program, placing)
            for path in paths(tables):
                old = part_at(tables, path)
                things = (None, (), True, False, 0, 1, 2, 3, "0", [], (old,), list(old) if type(old) is tuple else [old],
                          ((0, 1),), Posing(int), Posing(tuple), -1, 10 ** 30)
                for thing in things:
                    if type(thing) is type(old) and thing == old:
                        continue
                    self.assertIs(is_table(program, placing, replaced(tables, path, thing)), False, (path, thing))
                if type(old) is tuple and old:
                    for thing in (old[:-1], old + old[-1:], old + (0,), OwnList(old)):
                        self.assertIs(is_table(program, placing, replaced(tables, path, thing)), False, (path, thing))
                    if old[::-1] != old:
                        self.assertIs(is_table(program, placing, replaced(tables, path, old[::-1])), False)

    def test_truths_are_no_numbers(self):
        # Row 0 and one hold, written with truths.
        self.assertIs(is_table(GIVE, bare(GIVE), (((0, ((0, 1),), ()),),)), True)
        for table in ((False, ((0, 1),), ()), (0, ((False, 1),), ()), (0, ((0, True),), ())):
            self.assertIs(is_table(GIVE, bare(GIVE), ((table,),)), False)

    def test_holds_of_none_are_not_told(self):
        self.assertIs(is_table(GIVE, bare(GIVE), (((0, ((0, 1), (1, 0)), ()),),)), False)

    def test_another_placing_s_tables(self):
        one = placing_of(GIVE, {("entry",): hold(0), ("before", 0): drop(0)})
        _, tables = judge(GIVE, one)
        self.assertIs(is_table(GIVE, bare(GIVE), tables), False)
        self.assertIs(is_table(GIVE, one, judge(GIVE, bare(GIVE))[1]), False)

    def test_a_placing_that_is_not_right_has_none(self):
        wrong = placing_of(GIVE, {("before", 0): drop(0)})
        for thing in ODD + judge(GIVE, bare(GIVE)) + ((((0, (), ()),),), ((),), ()):
            self.assertIs(is_table(GIVE, wrong, thing), False)
        for tables in ((((0, ((0, 1),), ()), (1, ((0, 1),), ()), (2, ((0, 1),), ())),),):
            self.assertIs(is_table(LOOP, bare(LOOP), tables), True)
            for spot in (("edge", 1, 0), ("edge", 0, 1), ("before", 2), ("entry",)):
                for deeds in (hold(0), drop(0), hold(1), free(0, 0)):
                    self.assertIs(is_table(LOOP, placing_of(LOOP, {spot: deeds}), tables), False)

    def test_any_object(self):
        for thing in ODD + (bare(GIVE), GIVE, list(judge(GIVE, bare(GIVE))[1])):
            for program, placing in RIGHT:
                self.assertIs(is_table(program, placing, thing), False)

    def test_wrong_arguments_whatever_is_judged(self):
        for thing in (None, Posing(tuple), judge(GIVE, bare(GIVE))[1]):
            for program in ODD:
                with self.assertRaises(BadProgram):
                    is_table(program, bare(GIVE), thing)
            with self.assertRaises(NotChecked):
                is_table(program_of(("give", 0)), bare(GIVE), thing)
            for placing in ODD:
                with self.assertRaises(BadPlacing):
                    is_table(GIVE, placing, thing)
        self.assertIs(is_table(thing=(((0, ((0, 1),), ()),),), placing=bare(GIVE), program=GIVE), True)


class IsWrongTest(unittest.TestCase):
    # On each way to the give, and on the loop, deeds fall.
    BROKEN = placing_of(LOOP, {("edge", 0, 1): drop(4), ("before", 1): hold(0), ("edge", 1, 0): drop(0, 0)})

    def wrong(self, program, placing, *thing):
        self.assertIs(is_wrong(program, placing, thing), True)

    def fine(self, program, placing, *thing):
        self.assertIs(is_wrong(program, placing, thing), False)

    def test_what_judge_tells(self):
        for program, spots, tokens in (
                (GIVE, {("entry",): drop(0)}, {}), (TWO, {}, {}), (JOIN, {("edge", 1, 0): hold(0)}, {}),
                (PAIRS, {}, {0: 4}), (PAIRS, {}, {2: 3}), (SIZES, {("edge", 0, 3): free(0, 2)}, {0: 0}),
                (LOOP, {("edge", 1, 0): drop(0)}, {})):
            placing = placing_of(program, spots, tokens)
            word, *thing = judge(program, placing)
            self.assertEqual(word, "wrong")
            self.wrong(program, placing, *thing)
            self.fine(program, placing, word, *thing)
            self.assertIs(is_wrong(program, placing, thing), False)

    def test_other_ways_that_fall(self):
        self.assertEqual(judge(LOOP, self.BROKEN), ("wrong", "f", (1,), ("drop", 4)))
        self.wrong(LOOP, self.BROKEN, "f", (1,), ("drop", 4))
        self.wrong(LOOP, self.BROKEN, "f", (0, 0, 0), ("hold", 0))
        self.wrong(LOOP, self.BROKEN, "f", (0, 0, 1), ("drop", 4))

    def test_just_the_first_fault(self):
        for way, fault in (((1,), ("drop", 3)), ((1,), ("hold", 4)), ((1,), ("use", 4)), ((0, 0, 1), ("use", 0)),
                           ((0, 0, 0), ("drop", 0)), ((1,), ("left", 0)), ((1,), ("drop", True)), ((1,), ("drop",)),
                           ((1,), ("drop", 4, 4)), ((1,), ["drop", 4]), ((1,), None), ((1,), ()), ((1,), "drop"),
                           ((1,), (("drop", 4),))):
            self.fine(LOOP, self.BROKEN, "f", way, fault)
        both = placing_of(GIVE, {("before", 0): drop(5) + hold(6), ("entry",): hold(0)})
        self.wrong(GIVE, both, "f", (), ("drop", 5))
        self.fine(GIVE, both, "f", (), ("hold", 6))
        self.fine(GIVE, both, "f", (), ("left", 0))

    def test_ways_that_do_not_fall(self):
        for way in ((), (0,), (0, 0)):
            for fault in (("drop", 4), ("hold", 0), ("drop", 0), None, ("use", 0)):
                self.fine(LOOP, self.BROKEN, "f", way, fault)
        for fault in (None, (), ("left", 0), ("use", 0)):
            self.fine(GIVE, bare(GIVE), "f", (), fault)

    def test_a_longer_way_than_the_one_that_falls(self):
        broken = placing_of(LOOP, {("edge", 0, 0): drop(0, 0)})
        self.wrong(LOOP, broken, "f", (0,), ("drop", 0))
        for way in ((0, 0), (0, 0, 0), (0, 0, 1)):
            self.fine(LOOP, broken, "f", way, ("drop", 0))

    def test_a_fault_on_a_longer_way_alone(self):
        grown = placing_of(LOOP, {("edge", 1, 0): hold(0)})
        for many in range(1, 40):
            self.wrong(LOOP, grown, "f", (0, 0) * many + (1,), ("left", 0))
        self.wrong(LOOP, grown, "f", (0, 0) * 1999 + (1,), ("left", 0))
        self.fine(LOOP, grown, "f", (0, 0) * 2000, ("left", 0))
        self.fine(LOOP, grown, "f", (1,), ("left", 0))

    def test_longest_ways(self):
        # Each time round the loop brings one hold, from the second time on of two that are dropped at the end.
        grown = placing_of(LOOP, {("edge", 1, 0): hold(0) * 60, ("before", 1): hold(0) * 60, ("before", 2): drop(9)})
        self.wrong(LOOP, grown, "f", (0, 0) * 1999 + (1,), ("drop", 9))
        self.fine(LOOP, grown, "f", (0, 0) * 2000 + (1,), ("drop", 9))
        end = placing_of(LOOP, {("edge", 1, 0): hold(0), ("edge", 0, 0): drop(0)})
        self.fine(LOOP, end, "f", (0, 0) * 1999 + (1,), ("use", 0))
        self.wrong(LOOP, end, "f", (0, 0), ("hold", 0))

    def test_truths_in_ways_and_faults(self):
        self.fine(LOOP, self.BROKEN, "f", (True,), ("drop", 4))
        self.fine(LOOP, self.BROKEN, "f", (False, 0, 1), ("drop", 4))
        one = placing_of(TWO, {("entry",): drop(0, 1, 1)})
        self.wrong(TWO, one, "f", (), ("drop", 1))
        self.fine(TWO, one, "f", (), ("drop", True))

    def test_each_function(self):
        placing = with_deeds(with_deeds(placed(LIST_PROGRAM), 0, ("edge", 0, 0), drop(0)), 4, ("entry",), drop(0))
        self.wrong(LIST_PROGRAM, placing, "rev", (0,), ("drop", 0))
        self.wrong(LIST_PROGRAM, placing, "same", (), ("use", 0))
        self.fine(LIST_PROGRAM, placing, "sum", (), ("use", 0))
        self.fine(LIST_PROGRAM, placing, "sum", (0,), ("drop", 0))
        self.fine(LIST_PROGRAM, placing, "nofun", (), ("use", 0))

    def test_ways_that_are_none(self):
        for way in ((2,), (1, 0), (-1,), [1], None, 1, "1", (1, 1), (0, 1)) + ODD:
            self.fine(LOOP, self.BROKEN, "f", way, ("drop", 4))

    def test_names_that_are_none(self):
        for name in ODD + ("g", "", "F", ("f",), 0):
            self.fine(LOOP, self.BROKEN, name, (1,), ("drop", 4))

    def test_any_object(self):
        for thing in ODD + ((), ("f",), ("f", (1,)), ("f", (1,), ("drop", 4), 0), ["f", (1,), ("drop", 4)],
                            OwnList(("f", (1,), ("drop", 4))), "f", (("f", (1,), ("drop", 4)),)):
            self.assertIs(is_wrong(LOOP, self.BROKEN, thing), False)
        for path in paths(("f", (1,), ("drop", 4))):
            for thing in ODD:
                self.assertIs(is_wrong(LOOP, self.BROKEN, replaced(("f", (1,), ("drop", 4)), path, thing)), False)

    def test_wrong_arguments_whatever_is_judged(self):
        for thing in (None, Posing(tuple), ("f", (1,), ("drop", 4))):
            for program in ODD:
                with self.assertRaises(BadProgram):
                    is_wrong(program, self.BROKEN, thing)
            with self.assertRaises(NotChecked):
                is_wrong(program_of(("give", 0)), self.BROKEN, thing)
            for placing in ODD:
                with self.assertRaises(BadPlacing):
                    is_wrong(LOOP, placing, thing)
        self.assertIs(is_wrong(thing=("f", (1,), ("drop", 4)), placing=self.BROKEN, program=LOOP), True)


if __name__ == "__main__":
    unittest.main()
