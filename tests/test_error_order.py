"""[2]: errors in the order of the parameters, when several arguments are wrong at once."""

import itertools
import unittest

from justfreed.checks import check, checked, registers
from justfreed.errors import (
    BadArgs, BadKind, BadKinds, BadLimit, BadLog, BadName, BadPlacing, BadProgram, BadRegister, BadRow, BadText, BadWay, CellError,
    HasTokens, NotChecked, NotLet, NotRight, TooGreat, Unlike)
from justfreed.judging import is_placing, is_table, is_wrong, judge
from justfreed.machine import drive, look
from justfreed.placing import dearer, deeds_on, held_more, placed
from justfreed.programs import is_tree
from justfreed.rooms import in_place, reusing, used_anew
from justfreed.running import run
from justfreed.steps import replayed, same_log, stepped
from justfreed.texts import read_text, write_text
from justfreed.ways import comes_to, first_way, needs, use_ahead
from justfreed.whole import compared, settled
from tests.placings import bare, drop, hold, placing_of, with_deeds
from tests.samples import LIST_KINDS, LOOP, SIZES, TWO, chain, program_of
from tests.test_same_log import line

# What may stand for each parameter: the right one first, each wrong one with its error.
PROGRAM = ((LOOP, None), (None, BadProgram), (list(LOOP), BadProgram), (program_of(("give", 0)), NotChecked),
           (program_of(("give", 60)), BadProgram))
PLACING = ((bare(LOOP), None), (None, BadPlacing), (bare(LOOP) * 2, BadPlacing))
RIGHT_PLACING = PLACING + ((placing_of(LOOP, {("entry",): drop(0)}), NotRight),)
NAME = (("f", None), ("g", BadName), (None, BadName), (["f"], BadName))
WAY = (((0, 0, 1), None), ((2,), BadWay), (None, BadWay), ((0, 0) * 2000 + (0,), BadWay))
ROW = ((1, None), (3, BadRow), (True, BadRow), (None, BadRow))
REGISTER = ((0, None), (32, BadRegister), (False, BadRegister), (None, BadRegister))
THING = ((None, None), (object(), None), (bare(LOOP), None))

FORM = (PROGRAM[0], PROGRAM[1], PROGRAM[2], PROGRAM[4])
ARGS = (((("Nil",), 0), None), ((("Nil",),), BadArgs), (None, BadArgs), ((("Nil",), True), BadArgs), ([("Nil",), 0], BadArgs))
LIMIT = ((50, None), (0, None), (-1, BadLimit), (100001, BadLimit), (True, BadLimit), (None, BadLimit))
STEP = ((("spot", "f", ("entry",), hold(0) + drop(0)), None), (("spot", "f", ("entry",), hold(0)), NotLet), (None, NotLet),
        (("spot", "g", ("entry",), ()), NotLet))
LOG = (((), None), ((STEP[0][0],), None), ((STEP[0][0], None), NotLet), ([], BadLog), (None, BadLog), ((None,) * 4001, BadLog))
UNCHECKED = program_of(("give", 0))
TEXT = ((write_text(LOOP, bare(LOOP)), None), (write_text(UNCHECKED, bare(UNCHECKED)), NotChecked), ("kind", BadText), (None, BadText))

CALLS = (
    (is_tree, (((LIST_KINDS, None), (None, BadKinds), (LIST_KINDS * 2, BadKinds)), (("List", None), ("Nil", BadKind), (None, BadKind)),
               THING)),
    (check, (FORM,)),
    (checked, (PROGRAM,)),
    (registers, (PROGRAM,)),
    (run, (PROGRAM, NAME, ARGS, LIMIT)),
    (drive, (PROGRAM, PLACING, NAME, ARGS, LIMIT)),
    (look, (PROGRAM, PLACING, NAME, ARGS, LIMIT)),
    (stepped, (PROGRAM, PLACING, STEP)),
    (replayed, (PROGRAM, PLACING, LOG)),
    (same_log, (PROGRAM, RIGHT_PLACING, RIGHT_PLACING)),
    (write_text, (FORM, PLACING)),
    (read_text, (((TEXT[0][0], None), (TEXT[1][0], None)) + TEXT[2:],)),
    (settled, (TEXT,)),
    (compared, (TEXT, TEXT)),
    (comes_to, (PROGRAM, NAME, WAY)),
    (first_way, (PROGRAM, NAME, ROW)),
    (needs, (PROGRAM, NAME)),
    (use_ahead, (PROGRAM, NAME, ROW, REGISTER)),
    (is_placing, (PROGRAM, THING)),
    (judge, (PROGRAM, PLACING)),
    (is_table, (PROGRAM, PLACING, THING)),
    (is_wrong, (PROGRAM, PLACING, THING)),
    (placed, (PROGRAM,)),
    (held_more, (PROGRAM, RIGHT_PLACING)),
    (deeds_on, (PROGRAM, PLACING, NAME, WAY)),
    (dearer, (PROGRAM, RIGHT_PLACING)),
    (reusing, (PROGRAM,)),
    (used_anew, (PROGRAM, PLACING, NAME, WAY)),
    (in_place, (PROGRAM, RIGHT_PLACING)),
)


class ErrorOrderTest(unittest.TestCase):
    def test_all_ways_to_be_wrong(self):
        for function, params in CALLS:
            for chosen in itertools.product(*params):
                arguments = [argument for argument, _ in chosen]
                errors = [error for _, error in chosen if error is not None]
                raised = None
                try:
                    function(*arguments)
                except CellError as error:
                    raised = type(error)
                self.assertIs(raised, errors[0] if errors else None, (function.__name__, arguments))

    def test_a_placing_that_falls_is_taken_where_any_one_is(self):
        falls = placing_of(LOOP, {("entry",): drop(0, 0)})
        self.assertEqual(judge(LOOP, falls)[0], "wrong")
        self.assertIs(is_table(LOOP, falls, None), False)
        self.assertIs(is_wrong(LOOP, falls, None), False)
        self.assertEqual(deeds_on(LOOP, falls, "f", (1,)), 2)
        self.assertEqual(used_anew(LOOP, falls, "f", (1,)), 0)

    def test_placings_that_fall_are_taken_by_the_machine_and_by_steps(self):
        falls = placing_of(LOOP, {("entry",): drop(0, 0)})
        self.assertEqual(drive(LOOP, falls, "f", (("Nil",), 0), 5)[:2], ("fault", "gone"))
        self.assertIsNone(look(LOOP, falls, "f", (("Nil",), 0), 5))
        self.assertEqual(replayed(LOOP, falls, ()), falls)
        self.assertEqual(stepped(LOOP, falls, ("spot", "f", ("entry",), ())), bare(LOOP))
        self.assertEqual(read_text(write_text(LOOP, falls)), (LOOP, falls))

    def test_the_log_is_looked_for_ahead_of_its_steps(self):
        with self.assertRaises(BadLog):
            replayed(LOOP, bare(LOOP), (None,) * 4001)
        with self.assertRaises(BadLog):
            replayed(LOOP, bare(LOOP), [None])
        with self.assertRaises(NotLet):
            replayed(LOOP, bare(LOOP), (None,) * 4000)

    def test_tokens_are_behind_all_others_but_too_great(self):
        kept = placing_of(SIZES, {}, {at: 4 for at in range(6)})
        falls = placing_of(SIZES, {("entry",): drop(0)})
        for one, other, error in ((kept, None, BadPlacing), (None, kept, BadPlacing), (kept, falls, NotRight), (falls, kept, NotRight),
                                  (falls, None, NotRight), (None, falls, BadPlacing), (kept, bare(SIZES), HasTokens),
                                  (bare(SIZES), kept, HasTokens)):
            with self.assertRaises(error):
                same_log(SIZES, one, other)

    def test_unlike_is_behind_all_errors_of_the_texts(self):
        text, two = write_text(LOOP, bare(LOOP)), write_text(TWO, bare(TWO))
        for one, other, error in ((text, two, Unlike), (two, "kind", BadText), ("kind", two, BadText), (TEXT[1][0], two, NotChecked),
                                  (two, TEXT[1][0], NotChecked)):
            with self.assertRaises(error):
                compared(one, other)

    def test_too_great_of_logs_is_behind_all_others(self):
        kinds, functions = line(20, 2)
        kept = ("kept", ("List",), "List", (("match", 0, (((), 1), ((1, 2), 1))), ("make", 3, "Nil", (), 2), ("give", 3)))
        program = (kinds, functions + (kept,))
        told = placed(program)
        one = with_deeds(with_deeds(told, 0, ("before", 3), hold(1) * 60), 0, ("edge", 3, 0), drop(1) * 60)
        other = with_deeds(with_deeds(told, 0, ("before", 1), hold(0) * 60), 0, ("before", 3), drop(0) * 60)
        falls = with_deeds(other, 1, ("entry",), drop(0))
        with self.assertRaises(TooGreat):
            same_log(program, one, other)
        for first, second in ((one, falls), (falls, one)):
            with self.assertRaises(NotRight):
                same_log(program, first, second)
        rows = told[1][1]
        tokens = (told[1][0], ((rows[0][0], 0, ((("free", 0, 0),), rows[0][2][1] + (("free", 0, 2),))),) + rows[1:])
        for first, second in ((one[:1] + (tokens,), other), (one, other[:1] + (tokens,))):
            with self.assertRaises(HasTokens):
                same_log(program, first, second)

    def test_too_great_is_behind_all_others(self):
        kinds, (great,) = chain(17, 17)
        with self.assertRaises(TooGreat):
            reusing((kinds, (great,)))
        with self.assertRaises(NotChecked) as context:
            reusing((kinds, (great, ("g", (), "number", (("give", 0),)))))
        self.assertEqual(context.exception.what, ("unset", "g", 0))
        with self.assertRaises(BadProgram):
            reusing((kinds, (great, ("g", (), "number", (("give", 32),)))))

    def test_a_placing_is_held_against_its_program(self):
        other = chain(1, 1)
        for function in (judge, held_more, dearer, in_place):
            with self.assertRaises(BadPlacing):
                function(LOOP, bare(other))
            with self.assertRaises(BadPlacing):
                function(other, bare(LOOP))


if __name__ == "__main__":
    unittest.main()
