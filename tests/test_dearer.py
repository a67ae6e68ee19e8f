"""[15]: held_more, deeds_on and dearer."""

import unittest

from justfreed.errors import BadName, BadPlacing, BadProgram, BadWay, NotChecked, NotRight
from justfreed.judging import judge
from justfreed.placing import dearer, deeds_on, held_more, placed
from justfreed.rooms import reusing
from tests.placings import bare, drop, free, hold, placing_of, spots_of, with_deeds
from tests.samples import GIVE, JOIN, LIST_PROGRAM, LOOP, NUMBER, ODD, PAIRS, SIZES, TWO, program_of

LIST = ("List",)


class RightTest(unittest.TestCase):
    def both(self, program, spots, held, dear, tokens=None):
        """Expects what is told of a right placing."""
        placing = placing_of(program, spots, tokens)
        self.assertEqual(judge(program, placing)[0], "right")
        self.assertEqual(held_more(program, placing), held)
        self.assertEqual(dearer(program, placing), dear)


class HeldMoreTest(RightTest):
    def test_the_told_placing(self):
        for program in (GIVE, TWO, NUMBER, JOIN, LOOP, SIZES, PAIRS, LIST_PROGRAM):
            for placing in (placed(program), reusing(program)):
                self.assertEqual(held_more(program, placing), ())

    def test_a_hold_and_a_drop_more(self):
        self.both(GIVE, {("entry",): hold(0), ("before", 0): drop(0)}, ((0, 0, 0),), ("f", ()))
        self.both(GIVE, {("before", 0): hold(0) + drop(0)}, (), ("f", ()))
        self.both(JOIN, {("edge", 1, 0): hold(0), ("edge", 4, 0): hold(0), ("before", 3): drop(0)}, ((0, 3, 0),),
                  ("f", (0, 0, 0)))
        self.both(JOIN, {("edge", 0, 1): hold(0), ("edge", 4, 0): drop(0)}, ((0, 2, 0), (0, 4, 0)), ("f", (1, 0, 0, 0)))
        self.both(JOIN, {("edge", 0, 1): hold(0) * 5, ("edge", 2, 0): drop(0) * 3, ("edge", 4, 0): drop(0) * 2},
                  ((0, 2, 0), (0, 4, 0)), ("f", (1, 0, 0, 0)))

    def test_dropped_later(self):
        self.both(TWO, {("before", 0): drop(1)}, ((0, 0, 1),), None)
        self.both(NUMBER, {("before", 0): drop(0, 1)}, ((0, 0, 0), (0, 0, 1)), None)
        self.both(NUMBER, {("entry",): drop(0), ("before", 1): drop(1)}, ((0, 0, 1), (0, 1, 1)), None)
        self.both(NUMBER, {("edge", 0, 0): drop(1), ("before", 1): drop(0)}, ((0, 0, 0), (0, 0, 1), (0, 1, 0)), None)

    def test_ascending_through_functions_rows_and_registers(self):
        program = program_of(("call", 2, "g", (0, 1), 1), ("give", 2), params=("List", "List"), result="List", others=(
            ("g", ("List", "List"), "List", (("number", 2, 0, 1), ("give", 1))),))
        placing = with_deeds(bare(program), 0, ("entry",), hold(1, 0))
        placing = with_deeds(placing, 0, ("edge", 0, 0), drop(0, 1))
        placing = with_deeds(placing, 1, ("entry",), hold(1))
        placing = with_deeds(placing, 1, ("before", 1), drop(0, 1))
        self.assertEqual(held_more(program, placing), ((0, 0, 0), (0, 0, 1), (1, 0, 0), (1, 0, 1), (1, 1, 0), (1, 1, 1)))
        self.assertEqual(dearer(program, placing), ("f", (0,)))

    def test_a_second_hold_of_what_is_needed_not_the_first(self):
        rows = (("call", 1, "f", (0,), 1), ("call", 1, "f", (0,), 2), ("give", 1))
        program = program_of(*rows, params=LIST, result="List")
        told = placed(program)
        self.assertEqual(held_more(program, told), ())
        early = with_deeds(with_deeds(told, 0, ("before", 0), ()), 0, ("entry",), hold(0))
        self.assertEqual(held_more(program, early), ((0, 0, 0),))
        self.assertIsNone(dearer(program, early))

    def test_results_are_plain(self):
        told = held_more(NUMBER, placing_of(NUMBER, {("before", 1): drop(0, 1)}))
        self.assertEqual(told, ((0, 0, 0), (0, 0, 1), (0, 1, 0), (0, 1, 1)))
        self.assertEqual({type(part) for entry in told for part in entry}, {int})


class DeedsOnTest(unittest.TestCase):
    def deeds(self, program, placing, way, many, name="f"):
        result = deeds_on(program, placing, name, way)
        self.assertIs(type(result), int)
        self.assertEqual(result, many)

    def test_each_spot(self):
        placing = placing_of(JOIN, {
            ("entry",): hold(0), ("before", 0): hold(0) * 2, ("edge", 0, 0): drop(0) * 4, ("edge", 0, 1): free(0, 0) * 8,
            ("before", 1): hold(0) * 16, ("edge", 1, 0): hold(0) * 32})
        for way, many in (((), 3), ((0,), 3 + 4 + 16), ((1,), 3 + 8), ((0, 0), 3 + 4 + 16 + 32), ((1, 0), 3 + 8),
                          ((0, 0, 0), 55), ((1, 0, 0, 0), 11)):
            self.deeds(JOIN, placing, way, many)

    def test_each_deed_counts(self):
        placing = placing_of(GIVE, {("entry",): hold(0, 1) + drop(5) + free(3, 2), ("before", 0): free(0, 0) * 2 + hold(31)})
        self.deeds(GIVE, placing, (), 7)

    def test_the_row_come_to_counts_without_its_edges(self):
        placing = placing_of(JOIN, {("before", 3): drop(9) * 5, ("edge", 3, 0): drop(9) * 7, ("before", 5): drop(9) * 11})
        self.deeds(JOIN, placing, (0, 0), 5)
        self.deeds(JOIN, placing, (0, 0, 0), 23)
        self.deeds(JOIN, placing, (1, 0, 0), 5)

    def test_rows_that_are_passed_again(self):
        placing = placing_of(LOOP, {("entry",): hold(0) * 60, ("before", 0): hold(0), ("edge", 0, 0): drop(0) * 2,
                                    ("before", 1): drop(0) * 3, ("edge", 1, 0): hold(0) * 4, ("before", 2): drop(0) * 60})
        self.deeds(LOOP, placing, (), 61)
        for many in (1, 2, 30, 1999):
            self.deeds(LOOP, placing, (0, 0) * many, 61 + 10 * many)
            self.deeds(LOOP, placing, (0, 0) * many + (0,), 61 + 10 * many + 5)
            self.deeds(LOOP, placing, (0, 0) * many + (1,), 61 + 10 * many + 60)
        self.deeds(LOOP, placing, (0, 0) * 2000, 61 + 20000)

    def test_whether_or_not_the_way_falls(self):
        self.deeds(JOIN, placing_of(JOIN, {("entry",): drop(0, 0, 0)}), (0, 0, 0), 3)
        self.deeds(JOIN, placing_of(JOIN, {("before", 3): hold(7)}), (1, 0, 0, 0), 1)

    def test_each_function(self):
        placing = with_deeds(with_deeds(bare(LIST_PROGRAM), 1, ("entry",), drop(0)), 4, ("before", 0), hold(0) * 3)
        for name, many in (("rev", 0), ("sum", 1), ("count", 0), ("sumloop", 0), ("same", 3)):
            self.deeds(LIST_PROGRAM, placing, (), many, name)
        self.deeds(LIST_PROGRAM, placing, (1, 0, 0), 1, "sum")

    def test_wrong_ways(self):
        for way in ODD + ((2,), (1, 0), (-1,), (True,), [0], (0, 0) * 2000 + (0,), "0", 0):
            with self.assertRaises(BadWay):
                deeds_on(LOOP, bare(LOOP), "f", way)
        with self.assertRaises(BadWay):
            deeds_on(LIST_PROGRAM, bare(LIST_PROGRAM), "same", (0,))

    def test_wrong_names(self):
        for name in ODD + ("g", "F", 0, ("f",)):
            with self.assertRaises(BadName):
                deeds_on(LOOP, bare(LOOP), name, ())

    def test_by_names(self):
        self.deeds(LOOP, bare(LOOP), (), 0)
        self.assertEqual(deeds_on(way=(), name="f", placing=bare(LOOP), program=LOOP), 0)
        self.assertEqual(held_more(placing=bare(LOOP), program=LOOP), ())
        self.assertIsNone(dearer(placing=bare(LOOP), program=LOOP))


class DearerTest(RightTest):
    def test_the_told_placing(self):
        for program in (GIVE, TWO, NUMBER, JOIN, LOOP, SIZES, PAIRS, LIST_PROGRAM):
            self.assertIsNone(dearer(program, placed(program)))

    def test_deeds_moved_along_the_ways(self):
        # As many are done, at other spots.
        self.both(LOOP, {("before", 0): hold(0) + drop(0)}, (), ("f", (1,)))
        rows = (("less", 1, 1, 1, 2), ("add", 1, 1, 1, 3), ("sub", 1, 1, 1, 3), ("number", 2, 0, 4), ("give", 2))
        program = program_of(*rows, params=("List", "number"))
        self.assertEqual(placed(program), placing_of(program, {("entry",): drop(0)}))
        everywhere = ((0, 0, 0), (0, 1, 0), (0, 2, 0), (0, 3, 0), (0, 4, 0))
        self.both(program, {("before", 0): drop(0)}, everywhere[:1], None)
        self.both(program, {("edge", 0, 0): drop(0), ("edge", 2, 0): drop(0)}, (everywhere[0], everywhere[2]), None)
        self.both(program, {("before", 1): drop(0), ("edge", 0, 1): drop(0)}, everywhere[:2], None)
        self.both(program, {("before", 4): drop(0)}, everywhere, None)

    def test_the_first_whole_way(self):
        # The shorter whole way does as told, the longer one does two deeds more.
        self.both(JOIN, {("before", 4): hold(0), ("edge", 4, 0): drop(0)}, (), ("f", (1, 0, 0, 0)))
        self.both(JOIN, {("before", 1): hold(0), ("edge", 1, 0): drop(0)}, (), ("f", (0, 0, 0)))
        self.both(JOIN, {("before", 1): hold(0), ("edge", 1, 0): drop(0), ("before", 4): hold(0), ("edge", 4, 0): drop(0)}, (),
                  ("f", (0, 0, 0)))
        rows = (("less", 1, 1, 1, 2), ("give", 0), ("give", 0))
        program = program_of(*rows, params=("List", "number"), result="List")
        self.both(program, {("before", 2): hold(0) + drop(0)}, (), ("f", (1,)))
        self.both(program, {("before", 2): hold(0) + drop(0), ("before", 1): hold(0) + drop(0)}, (), ("f", (0,)))

    def test_a_whole_way_round_a_loop(self):
        self.both(LOOP, {("before", 1): hold(0) + drop(0)}, (), ("f", (0, 0, 1)))
        self.both(LOOP, {("edge", 0, 0): hold(0), ("edge", 1, 0): drop(0)}, ((0, 1, 0),), ("f", (0, 0, 1)))
        self.both(LOOP, {("edge", 0, 1): hold(0), ("before", 2): drop(0)}, ((0, 2, 0),), ("f", (1,)))

    def test_a_loop_that_has_to_be_gone_twice(self):
        # Row 1 leads to row 3 alone, row 4 to the give; only behind row 3 a way comes to row 2, and on to row 0.
        rows = (("less", 1, 1, 1, 4), ("add", 1, 1, 1, 3), ("add", 1, 1, 1, 0), ("less", 1, 1, 2, 0), ("give", 0))
        program = program_of(*rows, params=("List", "number"), result="List")
        self.both(program, {("before", 2): hold(0), ("edge", 2, 0): drop(0)}, (), ("f", (0, 0, 0, 0, 1)))

    def test_frees_count(self):
        self.both(SIZES, {("edge", 0, 3): free(0, 3)}, (), ("f", (3, 0)), {0: 0, 1: 0, 2: 0, 3: 0, 5: 0})
        self.both(SIZES, {}, (), None, {at: 0 for at in range(6)})
        self.assertEqual(dearer(LIST_PROGRAM, reusing(LIST_PROGRAM)), ("rev", (0,)))

    def test_deeds_that_are_dearer_on_one_way_and_as_many_on_another(self):
        rows = (("match", 0, (((), 1), ((2, 3), 1))), ("give", 1))
        program = program_of(*rows, params=("List", "List"), result="List")
        self.assertEqual(placed(program), placing_of(program, {("edge", 0, 1): drop(3)}))
        self.both(program, {("edge", 0, 1): hold(3) + drop(3, 3)}, (), ("f", (1,)))
        self.both(program, {("edge", 0, 0): hold(1) + drop(1), ("edge", 0, 1): drop(3)}, (), ("f", (0,)))

    def test_the_first_function(self):
        program = program_of(("less", 1, 1, 1, 1), ("give", 0), params=("List", "number"), result="List", others=(
            ("g", LIST, "List", (("give", 0),)), ("a", LIST, "List", (("give", 0),))))
        placing = with_deeds(bare(program), 2, ("before", 0), hold(0) + drop(0))
        self.assertEqual(dearer(program, placing), ("a", ()))
        placing = with_deeds(placing, 1, ("before", 0), hold(0) + drop(0))
        self.assertEqual(dearer(program, placing), ("g", ()))
        placing = with_deeds(placing, 0, ("edge", 0, 1), hold(0) + drop(0))
        self.assertEqual(dearer(program, placing), ("f", (1,)))

    def test_the_way_does_more(self):
        for spots in ({("before", 1): hold(0) + drop(0)}, {("edge", 0, 1): hold(0), ("before", 2): drop(0)}):
            placing = placing_of(LOOP, spots)
            name, way = dearer(LOOP, placing)
            self.assertGreater(deeds_on(LOOP, placing, name, way), deeds_on(LOOP, placed(LOOP), name, way))
            self.assertEqual({type(which) for which in way}, {int})


class NotRightTest(unittest.TestCase):
    def test_the_way_is_what_judge_tells(self):
        for program, spots in ((GIVE, {("entry",): drop(0)}), (TWO, {}), (JOIN, {("edge", 1, 0): hold(0)}),
                               (PAIRS, {("before", 2): free(0, 0)}), (LOOP, {("edge", 1, 0): drop(0)})):
            placing = placing_of(program, spots)
            word, *way = judge(program, placing)
            self.assertEqual(word, "wrong")
            for call in (held_more, dearer):
                with self.assertRaises(NotRight) as context:
                    call(program, placing)
                self.assertEqual(context.exception.way, tuple(way))
                self.assertEqual(type(context.exception.way), tuple)

    def test_in_a_later_function(self):
        placing = with_deeds(bare(LIST_PROGRAM), 4, ("entry",), drop(0))
        for call in (held_more, dearer):
            with self.assertRaises(NotRight) as context:
                call(LIST_PROGRAM, placing)
            self.assertEqual(context.exception.way, ("same", (), ("use", 0)))

    def test_wrong_arguments(self):
        calls = (held_more, dearer, lambda program, placing: deeds_on(program, placing, "f", ()))
        for call in calls:
            for program in ODD + (GIVE[1],):
                with self.assertRaises(BadProgram):
                    call(program, bare(GIVE))
            with self.assertRaises(NotChecked):
                call(program_of(("give", 0)), bare(GIVE))
            for placing in ODD + (bare(NUMBER), bare(GIVE) * 2, list(bare(GIVE))):
                with self.assertRaises(BadPlacing):
                    call(GIVE, placing)

    def test_all_spots_of_a_right_placing(self):
        # A drop more anywhere makes it wrong.
        for index, spot in spots_of(bare(LOOP)):
            with self.assertRaises(NotRight):
                dearer(LOOP, with_deeds(bare(LOOP), index, spot, drop(0)))


if __name__ == "__main__":
    unittest.main()
