"""[8]: ways, the rows that they come to, and the first way to a row."""

import unittest

from justfreed.errors import BadName, BadProgram, BadRow, BadWay, NotChecked
from justfreed.ways import comes_to, first_way
from tests.samples import LIST_PROGRAM, MANY_KINDS, ODD, OwnList, Posing, program_of

# Row 1 leads back to row 0.
LOOP = program_of(("less", 0, 1, 1, 2), ("add", 0, 0, 1, 0), ("give", 0), params=("number", "number"))

# Three branches, two of which are the same row; rows out of order.
BRANCHES = program_of(
    ("match", 0, (((), 4), ((1, 2, 3), 2), ((4,), 4))),
    ("give", 5),
    ("number", 5, 7, 1),
    ("give", 4),
    ("number", 4, 3, 3),
    params=("Tree",), kinds=MANY_KINDS)

# Row 0 leads to row 3 first, then to row 1; both lead to row 4; row 2 is come to behind that, or at once from row 5.
CROSSED = program_of(
    ("less", 0, 0, 3, 1),
    ("less", 0, 0, 5, 4),
    ("give", 0),
    ("less", 0, 0, 4, 6),
    ("less", 0, 0, 7, 2),
    ("less", 0, 0, 7, 0),
    ("add", 0, 0, 0, 4),
    ("give", 0),
    params=("number",))


class ComesToTest(unittest.TestCase):
    def comes(self, program, way, row, name="f"):
        result = comes_to(program, name, way)
        self.assertIs(type(result), int)
        self.assertEqual(result, row)

    def falls(self, program, way, name="f"):
        with self.assertRaises(BadWay):
            comes_to(program, name, way)

    def test_the_empty_way(self):
        for program in (LOOP, BRANCHES, CROSSED, program_of(("give", 0), params=("number",))):
            self.comes(program, (), 0)

    def test_ways(self):
        for way, row in (((0,), 1), ((1,), 2), ((0, 0), 0), ((0, 0, 0), 1), ((0, 0, 1), 2), ((0, 0, 0, 0, 1), 2)):
            self.comes(LOOP, way, row)
        for way, row in (((0,), 4), ((1,), 2), ((2,), 4), ((0, 0), 3), ((1, 0), 1), ((2, 0), 3)):
            self.comes(BRANCHES, way, row)
        for way, row in (((0, 0, 0), 7), ((0, 0, 1), 2), ((0, 1, 0, 1), 2), ((1, 0, 1), 0), ((1, 0, 1, 1, 1, 0), 7)):
            self.comes(CROSSED, way, row)

    def test_each_function_has_its_own_ways(self):
        for name, way, row in (("rev", (1, 0, 0), 4), ("sum", (1, 0, 0), 4), ("count", (1, 0, 1), 4), ("same", (), 0),
                               ("sumloop", (0, 1, 0, 0), 3), ("sumloop", (0, 0), 1)):
            self.comes(LIST_PROGRAM, way, row, name)
        for name, way in (("rev", (1, 0, 1)), ("same", (0,)), ("sumloop", (1,)), ("count", (1, 0, 2))):
            self.falls(LIST_PROGRAM, way, name)

    def test_branches_to_one_row_are_two_ways(self):
        self.comes(BRANCHES, (0,), 4)
        self.comes(BRANCHES, (2,), 4)
        same = program_of(("less", 0, 0, 1, 1), ("give", 0), params=("number",))
        self.comes(same, (0,), 1)
        self.comes(same, (1,), 1)
        self.falls(same, (2,))

    def test_longest_ways(self):
        self.comes(LOOP, (0, 0) * 2000, 0)
        self.comes(LOOP, (0, 0) * 1999 + (0,), 1)
        self.comes(LOOP, (0, 0) * 1999 + (1,), 2)
        self.falls(LOOP, (0, 0) * 2000 + (0,))
        self.falls(LOOP, (0, 0) * 2000 + (1,))
        self.falls(LOOP, (0, 0) * 100000)
        self.falls(LOOP, (0, 0) * 1999 + (0, 1))
        self.falls(LOOP, (0, 0) * 1999 + (1, 0))

    def test_entries_beyond_the_nexts(self):
        for way in ((2,), (0, 1), (-1,), (0, -1), (0, 0, 2), (0, 0, -2), (10 ** 30,), (-10 ** 30,)):
            self.falls(LOOP, way)
        for way in ((3,), (-1,), (-3,), (0, 1), (1, -1)):
            self.falls(BRANCHES, way)

    def test_no_next_is_gone_from_a_give(self):
        for way in ((1, 0), (1, 1), (1, -1), (1, 0, 0), (0, 0, 1, 0)):
            self.falls(LOOP, way)
        self.falls(program_of(("give", 0), params=("number",)), (0,))

    def test_truths_are_no_entries(self):
        for way in ((False,), (True,), (0, False), (0, 0, True), (False, 0)):
            self.falls(LOOP, way)

    def test_other_objects(self):
        for thing in ODD + ([], [0], [0, 0], "0", {0: 0}, OwnList([0]), iter((0,)), range(1), 0, 1, b"\x00"):
            self.falls(LOOP, thing)
        for thing in ODD + ((), (0,), [], [0], "0", {0: 0}, OwnList([0]), Posing(int), b"\x00"):
            self.falls(LOOP, (thing,))
            self.falls(LOOP, (0, 0, thing))

    def test_wrong_names(self):
        for name in ODD + ("g", "F", "", " f", ("f",), ["f"], 0, "number"):
            with self.assertRaises(BadName):
                comes_to(LOOP, name, ())
            with self.assertRaises(BadName):
                first_way(LOOP, name, 0)

    def test_wrong_programs(self):
        for program in ODD + (LOOP[1], list(LOOP), LOOP + ((),)):
            with self.assertRaises(BadProgram):
                comes_to(program, "f", ())
            with self.assertRaises(BadProgram):
                first_way(program, "f", 0)
        wrong = program_of(("give", 0))
        for call in (lambda: comes_to(wrong, "f", ()), lambda: first_way(wrong, "f", 0)):
            with self.assertRaises(NotChecked) as context:
                call()
            self.assertEqual(context.exception.what, ("unset", "f", 0))

    def test_by_names(self):
        self.assertEqual(comes_to(way=(0,), name="f", program=LOOP), 1)
        self.assertEqual(first_way(row=2, name="f", program=LOOP), (1,))


class FirstWayTest(unittest.TestCase):
    def first(self, program, row, way, name="f"):
        result = first_way(program, name, row)
        self.assertIs(type(result), tuple)
        self.assertEqual([type(which) for which in result], [int] * len(result))
        self.assertEqual(result, way)
        self.assertEqual(comes_to(program, name, way), row)

    def test_row_0(self):
        for program in (LOOP, BRANCHES, CROSSED):
            self.first(program, 0, ())

    def test_rows_in_any_order(self):
        for row, way in enumerate(((), (0,), (1,))):
            self.first(LOOP, row, way)
        for row, way in enumerate(((), (1, 0), (1,), (0, 0), (0,))):
            self.first(BRANCHES, row, way)

    def test_shorter_ways_come_first_then_those_that_are_less(self):
        for row, way in enumerate(((), (1,), (0, 0, 1), (0,), (0, 0), (1, 0), (0, 1), (0, 0, 0))):
            self.first(CROSSED, row, way)

    def test_a_shorter_way_is_ahead_of_one_that_is_less(self):
        program = program_of(("less", 0, 0, 1, 2), ("add", 0, 0, 0, 2), ("give", 0), params=("number",))
        self.first(program, 2, (1,))

    def test_the_way_counts_and_not_the_row(self):
        # Both ways to row 3 have two entries; the first one goes by row 2, which leads there by its second next.
        program = program_of(("less", 0, 0, 2, 1), ("less", 0, 0, 3, 0), ("less", 0, 0, 0, 3), ("give", 0),
                             params=("number",))
        self.first(program, 3, (0, 1))

    def test_each_function(self):
        for name, row, way in (("rev", 4, (1, 0, 0)), ("rev", 2, (0,)), ("count", 4, (0, 0)), ("sumloop", 4, (0, 1, 0)),
                               ("same", 0, ())):
            self.first(LIST_PROGRAM, row, way, name)

    def test_no_rows(self):
        for row in ODD + (3, -1, 59, 60, 10 ** 30, True, False, "0", (0,), [0], "1"):
            with self.assertRaises(BadRow):
                first_way(LOOP, "f", row)
        with self.assertRaises(BadRow):
            first_way(LIST_PROGRAM, "same", 1)


if __name__ == "__main__":
    unittest.main()
