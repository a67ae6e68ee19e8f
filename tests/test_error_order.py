"""[2]: errors in the order of the parameters, when several arguments are wrong at once."""

import itertools
import unittest

from justfreed.errors import (
    BadName, BadPlacing, BadProgram, BadRegister, BadRow, BadWay, CellError, NotChecked, NotRight, TooGreat)
from justfreed.judging import is_placing, is_table, is_wrong, judge
from justfreed.placing import dearer, deeds_on, held_more, placed
from justfreed.rooms import in_place, reusing, used_anew
from justfreed.ways import comes_to, first_way, needs, use_ahead
from tests.placings import bare, drop, placing_of
from tests.samples import LOOP, chain, program_of

# What may stand for each parameter: the right one first, each wrong one with its error.
PROGRAM = ((LOOP, None), (None, BadProgram), (list(LOOP), BadProgram), (program_of(("give", 0)), NotChecked),
           (program_of(("give", 60)), BadProgram))
PLACING = ((bare(LOOP), None), (None, BadPlacing), (bare(LOOP) * 2, BadPlacing))
RIGHT_PLACING = PLACING + ((placing_of(LOOP, {("entry",): drop(0)}), NotRight),)
NAME = (("f", None), ("g", BadName), (None, BadName), (["f"], BadName))
WAY = (((0, 0, 1), None), ((2,), BadWay), (None, BadWay), ((0, 0) * 2000 + (0,), BadWay))
ROW = ((1, None), (3, BadRow), (True, BadRow), (None, BadRow))
REGISTER = ((0, None), (32, BadRegister), (False, BadRegister), (None, BadRegister))
THING = ((None, None), (object(), None), (bare(LOOP), None))

CALLS = (
    (comes_to, (PROGRAM, NAME, WAY)),
    (first_way, (PROGRAM, NAME, ROW)),
    (needs, (PROGRAM, NAME)),
    (use_ahead, (PROGRAM, NAME, ROW, REGISTER)),
    (is_placing, (PROGRAM, THING)),
    (judge, (PROGRAM, PLACING)),
    (is_table, (PROGRAM, PLACING, THING)),
    (is_wrong, (PROGRAM, PLACING, THING)),
    (placed, (PROGRAM,)),
    (held_more, (PROGRAM, RIGHT_PLACING)),
    (deeds_on, (PROGRAM, PLACING, NAME, WAY)),
    (dearer, (PROGRAM, RIGHT_PLACING)),
    (reusing, (PROGRAM,)),
    (used_anew, (PROGRAM, PLACING, NAME, WAY)),
    (in_place, (PROGRAM, RIGHT_PLACING)),
)


class ErrorOrderTest(unittest.TestCase):
    def test_all_ways_to_be_wrong(self):
        for function, params in CALLS:
            for chosen in itertools.product(*params):
                arguments = [argument for argument, _ in chosen]
                errors = [error for _, error in chosen if error is not None]
                raised = None
                try:
                    function(*arguments)
                except CellError as error:
                    raised = type(error)
                self.assertIs(raised, errors[0] if errors else None, (function.__name__, arguments))

    def test_a_placing_that_falls_is_taken_where_any_one_is(self):
        falls = placing_of(LOOP, {("entry",): drop(0, 0)})
        self.assertEqual(judge(LOOP, falls)[0], "wrong")
        self.assertIs(is_table(LOOP, falls, None), False)
        self.assertIs(is_wrong(LOOP, falls, None), False)
        self.assertEqual(deeds_on(LOOP, falls, "f", (1,)), 2)
        self.assertEqual(used_anew(LOOP, falls, "f", (1,)), 0)

    def test_too_great_is_behind_all_others(self):
        kinds, (great,) = chain(17, 17)
        with self.assertRaises(TooGreat):
            reusing((kinds, (great,)))
        with self.assertRaises(NotChecked) as context:
            reusing((kinds, (great, ("g", (), "number", (("give", 0),)))))
        self.assertEqual(context.exception.what, ("unset", "g", 0))
        with self.assertRaises(BadProgram):
            reusing((kinds, (great, ("g", (), "number", (("give", 32),)))))

    def test_a_placing_is_held_against_its_program(self):
        other = chain(1, 1)
        for function in (judge, held_more, dearer, in_place):
            with self.assertRaises(BadPlacing):
                function(LOOP, bare(other))
            with self.assertRaises(BadPlacing):
                function(other, bare(LOOP))


if __name__ == "__main__":
    unittest.main()
