"""[14]: the told placing."""

import unittest

from justfreed.errors import BadProgram, NotChecked
from justfreed.judging import is_placing, judge
from justfreed.placing import placed
from justfreed.ways import needs
from tests.placings import bare, drop, hold, placing_of
from tests.samples import LIST_PROGRAM, MANY_KINDS, ODD, program_of

LIST = "List"


class PlacedTest(unittest.TestCase):
    def told(self, program, spots):
        """Expects the deeds at the spots of the first function, and no others there, and that they are right."""
        placing = placed(program)
        self.assertEqual(placing[0], placing_of(program, spots)[0])
        self.assertIs(is_placing(program, placing), True)
        word, tables = judge(program, placing)
        self.assertEqual(word, "right")
        for (name, _, _, _), table in zip(program[1], tables):
            self.assertEqual(table, tuple((row, tuple((r, 1) for r in need), ())
                                          for row, need in enumerate(needs(program, name))))

    def test_nothing_to_do(self):
        self.assertEqual(placed(LIST_PROGRAM), bare(LIST_PROGRAM))
        self.told(program_of(("give", 0), params=("number",)), {})

    def test_parameters_that_are_not_needed(self):
        self.told(program_of(("give", 0), params=(LIST, LIST), result=LIST), {("entry",): drop(1)})
        self.told(program_of(("give", 3), params=(LIST, "number", LIST, "number", LIST)), {("entry",): drop(0, 2, 4)})
        self.told(program_of(("make", 0, "Nil", (), 1), ("give", 0), params=(LIST,), result=LIST), {("entry",): drop(0)})
        self.told(program_of(("number", 0, 0, 1), ("give", 0), params=(LIST,)), {("entry",): drop(0)})

    def test_used_twice_in_a_row(self):
        self.told(program_of(("call", 1, "f", (0, 0), 1), ("give", 1), params=(LIST, LIST), result=LIST),
                  {("entry",): drop(1), ("before", 0): hold(0)})
        rows = (("call", 8, "f", (3, 0, 3, 3, 0, 1, 0, 3), 1), ("give", 8))
        self.told(program_of(*rows, params=(LIST,) * 8, result=LIST),
                  {("entry",): drop(2, 4, 5, 6, 7), ("before", 0): hold(0, 0, 3, 3, 3)})
        self.told(program_of(("call", 1, "f", (0,) * 8, 1), ("call", 1, "f", (0,) * 8, 2), ("give", 1), params=(LIST,) * 8,
                             result=LIST),
                  {("entry",): drop(1, 2, 3, 4, 5, 6, 7), ("before", 0): hold(0) * 8, ("before", 1): hold(0) * 7,
                   ("edge", 0, 0): drop(1)})

    def test_used_and_needed_further_on(self):
        self.told(program_of(("call", 1, "f", (0,), 1), ("give", 0), params=(LIST,), result=LIST),
                  {("before", 0): hold(0), ("edge", 0, 0): drop(1)})
        self.told(program_of(("match", 0, (((), 1), ((1, 2), 1))), ("give", 0), params=(LIST,), result=LIST),
                  {("before", 0): hold(0), ("edge", 0, 1): drop(2)})
        self.told(program_of(("make", 3, "Node", (0, 2, 1), 1), ("make", 3, "Node", (3, 2, 1), 2), ("give", 3),
                             params=("Tree", "Tree", "number"), result="Tree", kinds=MANY_KINDS),
                  {("before", 0): hold(1)})

    def test_set_anew_by_the_same_row(self):
        self.told(program_of(("call", 0, "f", (0,), 1), ("give", 0), params=(LIST,), result=LIST), {})
        self.told(program_of(("make", 0, "Node", (0, 1, 0), 1), ("give", 0), params=("Tree", "number"), result="Tree",
                             kinds=MANY_KINDS), {("before", 0): hold(0)})

    def test_set_to_what_is_not_needed(self):
        self.told(program_of(("make", 1, "Nil", (), 1), ("give", 0), params=("number",)), {("edge", 0, 0): drop(1)})
        self.told(program_of(("match", 0, (((), 1), ((1, 2), 1))), ("number", 1, 0, 2), ("give", 1), params=(LIST,)),
                  {("edge", 0, 1): drop(2)})
        self.told(program_of(("match", 0, (((), 1), ((4, 1, 3), 1), ((2,), 1))), ("number", 1, 0, 2), ("give", 1),
                             params=("Tree",), kinds=MANY_KINDS), {("edge", 0, 1): drop(3, 4)})

    def test_dropped_on_one_edge_alone(self):
        self.told(program_of(("less", 1, 1, 1, 2), ("give", 0), ("make", 0, "Nil", (), 1), params=(LIST, "number"), result=LIST),
                  {("edge", 0, 1): drop(0)})
        self.told(program_of(("match", 0, (((), 1), ((3, 4), 2))), ("give", 1), ("give", 4), params=(LIST, LIST), result=LIST),
                  {("edge", 0, 1): drop(1)})
        # What is matched is needed behind one branch alone.
        self.told(program_of(("match", 0, (((), 1), ((3, 4), 2))), ("give", 0), ("give", 4), params=(LIST,), result=LIST),
                  {("before", 0): hold(0), ("edge", 0, 1): drop(0)})

    def test_drops_by_registers_ascending(self):
        # On the second branch neither what was there is needed nor what is set on the way, register 2 among them.
        program = program_of(
            ("match", 3, (((), 1), ((6, 5, 2), 2), ((5,), 2))), ("make", 7, "Node", (4, 5, 1), 3), ("make", 7, "Leaf", (), 3),
            ("give", 7), params=("Tree", "Tree", "number", "Tree", "Tree", "number"), result="Tree", kinds=MANY_KINDS)
        self.told(program, {("entry",): drop(0), ("edge", 0, 1): drop(1, 2, 4, 6), ("edge", 0, 2): drop(1, 4)})

    def test_ascending_whatever_the_registers(self):
        # A set of 1 and 8 comes in another order by itself.
        other = ("g", (LIST, LIST, LIST, LIST), LIST, (("give", 0),))
        program = program_of(("make", 8, "Nil", (), 1), ("call", 2, "g", (8, 1, 1, 8), 2), ("give", 2), params=("number", LIST),
                             result=LIST, others=(other,))
        self.told(program, {("before", 1): hold(1, 8)})
        program = program_of(("make", 8, "Nil", (), 1), ("less", 0, 0, 2, 3), ("call", 0, "g", (8, 1, 8, 1), 3), ("give", 3),
                             params=("number", LIST, "number", "number"), others=(other,))
        self.told(program, {("before", 2): hold(1, 8), ("edge", 1, 1): drop(1, 8), ("edge", 2, 0): drop(0)})

    def test_round_a_loop(self):
        self.told(program_of(("call", 3, "f", (0, 1), 1), ("less", 1, 1, 0, 2), ("give", 1), params=(LIST, "number")),
                  {("before", 0): hold(0), ("edge", 1, 1): drop(0)})

    def test_made_in_a_loop_and_not_needed(self):
        self.told(program_of(("make", 2, "Cons", (1, 0), 1), ("less", 1, 1, 0, 2), ("give", 0), params=(LIST, "number"),
                             result=LIST),
                  {("before", 0): hold(0), ("edge", 0, 0): drop(2)})

    def test_two_edges_to_the_same_row(self):
        self.told(program_of(("match", 0, (((), 1), ((2, 3), 1))), ("give", 1), params=(LIST, "number")),
                  {("edge", 0, 1): drop(3)})

    def test_all_functions(self):
        program = program_of(("give", 0), params=(LIST, LIST), result=LIST, others=(
            ("g", (LIST,), "number", (("number", 1, 0, 1), ("give", 1))),
            ("h", (LIST,), LIST, (("call", 1, "g", (0,), 1), ("give", 0)))))
        self.assertEqual(placed(program), (
            (drop(1), (((), None, ()),)),
            (drop(0), (((), None, ((),)), ((), None, ()))),
            ((), ((hold(0), None, ((),)), ((), None, ())))))

    def test_wrong_programs(self):
        for program in ODD + (LIST_PROGRAM[1], list(LIST_PROGRAM)):
            with self.assertRaises(BadProgram):
                placed(program)
        with self.assertRaises(NotChecked) as context:
            placed(program_of(("give", 0)))
        self.assertEqual(context.exception.what, ("unset", "f", 0))
        self.assertEqual(placed(program=LIST_PROGRAM), bare(LIST_PROGRAM))


if __name__ == "__main__":
    unittest.main()
