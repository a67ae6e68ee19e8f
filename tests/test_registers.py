"""[6]: what registers have."""

import itertools
import unittest

from justfreed.checks import check, registers
from tests.samples import (COUNT, LIST_KINDS, LIST_PROGRAM, MANY_KINDS, REVERSE, SAME, SUM, SUM_LOOP, program_of)

NUMBER, LIST = "number", "List"

REVERSE_HAS = (
    ((0, LIST), (1, LIST)),
    ((0, LIST), (1, LIST), (3, NUMBER), (4, LIST)),
    ((0, LIST), (1, LIST)),
    ((0, LIST), (1, LIST), (3, NUMBER), (4, LIST)),
    ((0, LIST), (1, LIST), (3, NUMBER), (4, LIST), (5, LIST)))
SUM_HAS = (
    ((0, LIST),),
    ((0, LIST), (1, NUMBER), (2, LIST)),
    ((0, LIST),),
    ((0, LIST), (1, NUMBER), (2, LIST), (3, NUMBER)),
    ((0, LIST), (1, NUMBER)))
# On the way from row 4 to row 3, 4 and 5 have something, on that from row 0 they have nothing.
SUM_LOOP_HAS = (
    ((0, LIST),),
    ((0, LIST), (1, NUMBER)),
    ((0, LIST), (1, NUMBER), (4, NUMBER), (5, LIST)),
    ((0, LIST), (1, NUMBER)),
    ((0, LIST), (1, NUMBER), (4, NUMBER), (5, LIST)))
COUNT_HAS = (
    ((0, LIST), (1, NUMBER)),
    ((0, LIST), (1, NUMBER), (2, NUMBER), (3, LIST)),
    ((0, LIST), (1, NUMBER), (2, NUMBER), (3, LIST), (4, NUMBER)),
    ((0, LIST), (1, NUMBER), (2, NUMBER), (3, LIST), (4, NUMBER)),
    ((0, LIST), (1, NUMBER), (4, NUMBER)),
    ((0, LIST), (1, NUMBER)),
    ((0, LIST), (1, NUMBER), (2, NUMBER), (3, LIST), (4, NUMBER), (5, NUMBER)))
SAME_HAS = (((0, LIST),),)


class RegistersTest(unittest.TestCase):
    def expect(self, program, *functions):
        self.assertEqual(registers(program), functions)
        self.assertEqual(registers(program=program), functions)

    def one(self, rows, has, params=(), result="number", kinds=MANY_KINDS):
        self.expect(program_of(*rows, params=params, result=result, kinds=kinds), has)

    def test_several_functions(self):
        self.expect(LIST_PROGRAM, REVERSE_HAS, SUM_HAS, COUNT_HAS, SUM_LOOP_HAS, SAME_HAS)
        self.expect((LIST_KINDS, (SAME, SUM_LOOP)), SAME_HAS, SUM_LOOP_HAS)

    def test_one_function(self):
        for function, has in ((REVERSE, REVERSE_HAS), (SUM, SUM_HAS), (COUNT, COUNT_HAS), (SAME, SAME_HAS)):
            self.expect((LIST_KINDS, (function,)), has)

    def test_they_are_tuples_throughout(self):
        def only_tuples(thing):
            self.assertIn(type(thing), (tuple, str, int))
            if type(thing) is tuple:
                for part in thing:
                    only_tuples(part)
        only_tuples(registers(LIST_PROGRAM))

    def test_params(self):
        params = ("Tree", "number", "List", "number", "Wide", "Loop", "Pair", "number")
        self.one((("give", 1),), (tuple(enumerate(params)),), params)

    def test_no_params(self):
        self.one((("number", 31, 5, 1), ("give", 31)), ((), ((31, NUMBER),)))

    def test_each_sort_of_row(self):
        rows = (
            ("number", 30, 5, 1), ("add", 8, 30, 1, 2), ("sub", 7, 8, 1, 3), ("less", 7, 8, 4, 4),
            ("make", 8, "One", (7,), 5), ("call", 2, "f", (8, 7), 6), ("match", 8, (((), 7), ((3, 4, 5), 8), ((6,), 9))),
            ("make", 9, "Nil", (), 10), ("make", 9, "Nil", (), 10), ("make", 9, "Leaf", (), 10), ("give", 2))
        begin = ((0, "Tree"), (1, NUMBER))
        behind = begin + ((2, NUMBER), (7, NUMBER), (8, "Tree"), (30, NUMBER))
        self.one(rows, (
            begin,
            begin + ((30, NUMBER),),
            begin + ((8, NUMBER), (30, NUMBER)),
            begin + ((7, NUMBER), (8, NUMBER), (30, NUMBER)),
            begin + ((7, NUMBER), (8, NUMBER), (30, NUMBER)),
            begin + ((7, NUMBER), (8, "Tree"), (30, NUMBER)),
            behind,
            behind,
            begin + ((2, NUMBER), (3, "Tree"), (4, NUMBER), (5, "Tree"), (7, NUMBER), (8, "Tree"), (30, NUMBER)),
            begin + ((2, NUMBER), (6, NUMBER), (7, NUMBER), (8, "Tree"), (30, NUMBER)),
            behind), ("Tree", "number"))

    def test_a_call_gives_the_result_of_what_is_called(self):
        for word in ("number", "Tree", "Wide"):
            rows = (("call", 3, "g", (), 1), ("give", 0))
            others = (("g", (), word, (("call", 0, "g", (), 1), ("give", 0))),)
            program = program_of(*rows, params=("number",), kinds=MANY_KINDS, others=others)
            self.expect(program, (((0, NUMBER),), ((0, NUMBER), (3, word))), ((), ((0, word),)))

    def test_a_make_gives_its_makers_kind(self):
        for maker, kind in (("Leaf", "Tree"), ("Nil", "List"), ("Wide0", "Wide")):
            self.one((("make", 0, maker, (), 1), ("give", 1)), (((0, "Wide"), (1, NUMBER)), ((0, kind), (1, NUMBER))),
                     ("Wide", "number"))

    def test_branches_join_in_what_they_agree_on(self):
        kinds = (("K", (("A", ("K", "number", "number")), ("B", ("number", "K", "number")), ("C", ("number",)))),)
        rows = (("match", 0, (((2, 3, 4), 1), ((3, 2, 4), 1), ((4,), 2))), ("give", 4), ("give", 4))
        begin = ((0, "K"),)
        self.one(rows, (begin, begin + ((2, "K"), (3, NUMBER), (4, NUMBER)), begin + ((4, NUMBER),)), ("K",), NUMBER, kinds)
        rows = (("match", 0, (((2, 3, 4), 1), ((2, 3, 4), 1), ((4,), 2))), ("give", 4), ("give", 4))
        self.one(rows, (begin, begin + ((4, NUMBER),), begin + ((4, NUMBER),)), ("K",), NUMBER, kinds)
        rows = (("match", 0, (((2, 3, 4), 1), ((3, 2, 4), 1), ((4,), 1))), ("give", 4))
        self.one(rows, (begin, begin + ((4, NUMBER),)), ("K",), NUMBER, kinds)

    def test_a_joint_of_something_and_nothing_or_something_else(self):
        rows = (("less", 0, 0, 1, 2), ("number", 5, 0, 3), ("make", 6, "Nil", (), 3), ("give", 0))
        self.one(rows, (((0, NUMBER),), ((0, NUMBER),), ((0, NUMBER),), ((0, NUMBER),)), (NUMBER,))
        rows = (("less", 0, 0, 1, 2), ("number", 5, 0, 3), ("make", 5, "Nil", (), 3), ("give", 0))
        self.one(rows, (((0, NUMBER),), ((0, NUMBER),), ((0, NUMBER),), ((0, NUMBER),)), (NUMBER,))
        rows = (("less", 0, 0, 1, 2), ("make", 5, "Leaf", (), 3), ("make", 5, "Nil", (), 3), ("give", 0))
        self.one(rows, (((0, NUMBER),), ((0, NUMBER),), ((0, NUMBER),), ((0, NUMBER),)), (NUMBER,))
        rows = (("less", 0, 0, 1, 2), ("make", 5, "Cons", (0, 1), 3), ("make", 5, "Nil", (), 3), ("give", 0))
        begin = ((0, NUMBER), (1, LIST))
        self.one(rows, (begin, begin, begin, begin + ((5, LIST),)), (NUMBER, LIST))

    def test_row_0_joins_the_begin(self):
        rows = (("less", 0, 0, 1, 2), ("make", 1, "Nil", (), 0), ("give", 0))
        for has in ("number", "Tree"):
            self.one(rows, (((0, NUMBER),), ((0, NUMBER),), ((0, NUMBER),)), (NUMBER, has))
        self.one(rows, (((0, NUMBER), (1, LIST)),) * 3, (NUMBER, LIST))
        rows = (("less", 0, 0, 1, 2), ("number", 7, 0, 0), ("give", 0))
        self.one(rows, (((0, NUMBER),), ((0, NUMBER),), ((0, NUMBER),)), (NUMBER,))

    def test_what_is_lost_far_behind_is_lost_all_around(self):
        """Each time around the loop one more register is found to have nothing."""
        rows = [("less", 0, 0, 1, 9)]
        for at in range(1, 8):
            rows.append(("less", 0, 0, at + 1, 10 + at))
        rows += [("number", 0, 0, 0), ("give", 0), ("give", 0)]
        rows += [("make", at, "Nil", (), 0) for at in range(1, 8)]
        rows[10] = ("give", 0)
        begin = ((0, NUMBER),)
        self.one(tuple(rows[:9] + [("less", 0, 0, 10, 10)] + rows[10:]), (begin,) * len(rows), (NUMBER,) * 8)
        kept = tuple((at, NUMBER) for at in range(8))
        rows = [row if row[0] != "make" else ("number",) + row[1:2] + (0,) + row[4:] for row in rows]
        self.one(tuple(rows[:9] + [("less", 0, 0, 10, 10)] + rows[10:]), (kept,) * len(rows), (NUMBER,) * 8)

    def test_rows_in_any_order(self):
        """The rows of SUM and REVERSE behind row 0, in all orders."""
        for function, has in ((SUM, SUM_HAS), (REVERSE, REVERSE_HAS)):
            name, params, result, rows = function
            for order in itertools.permutations(range(1, 5)):
                order = (0,) + order
                place = {old: new for new, old in enumerate(order)}
                moved = tuple(with_nexts(rows[old], place) for old in order)
                self.expect((LIST_KINDS, ((name, params, result, moved),)), tuple(has[old] for old in order))

    def test_what_is_wrong_is_raised(self):
        self.assertEqual(check(program_of(("give", 0))), ("unset", "f", 0))
        with self.assertRaises(ValueError):
            registers(program_of(("give", 0)))


def with_nexts(row, place):
    if row[0] == "give":
        return row
    if row[0] == "match":
        return row[:2] + (tuple((setting, place[goto]) for setting, goto in row[2]),)
    return row[:-1] + (place[row[-1]],)


if __name__ == "__main__":
    unittest.main()
