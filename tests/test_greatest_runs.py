"""[20] to [26] for greatest programs, placings and texts, and for runs of 100,000 rows, in a time that can be waited for."""

import time
import unittest

from justfreed.errors import BadText, NotLet, TooGreat
from justfreed.judging import is_placing, judge
from justfreed.machine import drive, look
from justfreed.placing import placed
from justfreed.steps import replayed, same_log, stepped
from justfreed.texts import read_text, write_text
from justfreed.whole import compared, settled
from tests.placings import bare, deeds_at, drop, free, hold, placing_of, spots_of, with_deeds
from tests.samples import DEEP, GROWS, program_of
from tests.test_greatest import ALL, great_program, leaf
from tests.test_greatest_placings import stuffed
from tests.test_same_log import line, with_level

# Far above what is needed, so that a busy machine does not make the tests fail.
SECONDS = 120
IDLE = (hold(0) + drop(0)) * 30


def great_placings(program):
    """The told placing of a great program, and a right one with sixty deeds at nearly each spot."""
    told = placed(program)
    full = stuffed(told, 0)
    # Nothing holds register 0 from the call in row 58 on, as it takes all that is there.
    for index in range(12):
        full = with_deeds(full, index, ("edge", 58, 0), hold(9) * 30 + drop(9) * 30)
    return told, full


class GreatestRunsTest(unittest.TestCase):
    PROGRAM = great_program(0)
    TOLD, FULL = great_placings(PROGRAM)

    def setUp(self):
        self.begin = time.monotonic()

    def tearDown(self):
        self.assertLess(time.monotonic() - self.begin, SECONDS)

    def test_great_programs_are_driven(self):
        args = tuple(leaf(at) for at in range(8))
        for placing in (self.TOLD, self.FULL):
            self.assertEqual(judge(self.PROGRAM, placing)[0], "right")
            word, what, counts = drive(self.PROGRAM, placing, "f0", args, ALL)
            self.assertEqual((word, what, counts[0], counts[5:]), ("on", None, ALL, (8, 8)))
        self.assertGreater(counts[1], 5000000)
        calls, cells = look(self.PROGRAM, self.TOLD, "f0", args, ALL)
        self.assertEqual(len(cells), 8)
        self.assertEqual({count for _, count, _, _ in cells}, {1})
        self.assertEqual(calls[0][:2], ("f0", 58))
        self.assertEqual(len(calls), ALL // 59 + 1)

    def test_sixty_deeds_at_each_spot_of_long_runs(self):
        program = program_of(("less", 1, 1, 1, 0), ("give", 0), params=("List", "number"), result="List")
        placing = placing_of(program, {("before", 0): IDLE, ("edge", 0, 1): IDLE})
        self.assertEqual(drive(program, placing, "f", (("Nil",), 5), ALL), ("on", None, (ALL, 6000000, 6000000, 0, 0, 1, 1)))
        calls = program_of(("call", 0, "f", (0,), 1), ("give", 0), params=("List",), result="List")
        placing = placing_of(calls, {("entry",): hold(0) * 60, ("before", 0): drop(0) * 60})
        self.assertEqual(drive(calls, placing, "f", (("Nil",),), ALL), ("on", None, (ALL, 6000060, 6000000, 0, 0, 1, 1)))

    def test_long_runs(self):
        self.assertEqual(drive(GROWS, placed(GROWS), "f", (10 ** 12,), ALL), ("on", None, (ALL, 0, 0, 33333, 0, 33333, 33333)))
        self.assertEqual(len(look(GROWS, placed(GROWS), "f", (10 ** 12,), ALL)[1]), 33333)
        self.assertEqual(drive(DEEP, placed(DEEP), "f", (("Nil",), 16665), ALL), ("ended", ("Nil",), (4 + 6 * 16665, 0, 0, 0, 0, 1, 1)))
        self.assertEqual(len(look(DEEP, placed(DEEP), "f", (("Nil",), 10 ** 12), ALL)[0]), 20001)

    def test_rooms_used_anew_a_hundred_thousand_times(self):
        # A list is turned round again and again, by a function that works in place.
        program = program_of(("match", 0, (((), 2), ((2, 3), 1))), ("make", 1, "Cons", (2, 1), 3), ("make", 0, "Nil", (), 4),
                             ("call", 0, "f", (3, 1), 5), ("call", 0, "f", (1, 0), 5), ("give", 0), params=("List", "List"), result="List")
        placing = placing_of(program, {}, {0: 0, 1: 0, 2: 0})
        self.assertEqual(judge(program, placing)[0], "right")
        word, what, counts = drive(program, placing, "f", (("Cons", 1) * 199 + ("Nil",), ("Nil",)), ALL)
        self.assertEqual((word, what, counts[:4], counts[5:]), ("on", None, (ALL, 0, 0, 0), (201, 200)))
        self.assertGreater(counts[4], 33000)

    def test_steps(self):
        idle = ("spot", "f11", ("entry",), hold(0) + drop(0))
        behind = stepped(self.PROGRAM, self.TOLD, idle)
        self.assertEqual(behind, with_deeds(self.TOLD, 11, ("entry",), hold(0) + drop(0)))
        back = ("spot", "f11", ("entry",), ())
        self.assertEqual(replayed(self.PROGRAM, self.TOLD, (idle, back) * 2000), self.TOLD)
        points = tuple((word, at) for word in ("mid", "start") for at in range(57))
        raised = ("level", "f0", 1, points, 50), ("level", "f0", 1, points, -50)
        self.assertEqual(replayed(self.PROGRAM, self.TOLD, raised * 100), self.TOLD)
        with self.assertRaises(NotLet) as context:
            replayed(self.PROGRAM, self.FULL, (back, raised[0]))
        self.assertEqual(context.exception.index, 1)
        # All but the last four deeds of each spot fall away there.
        everywhere = tuple((word, at) for word in ("mid", "start") for at in range(0, 58, 2))
        program, (_, parts) = self.PROGRAM, self.FULL[0]
        self.assertEqual(len(deeds_at(self.FULL, 0, ("edge", 3, 0))), 60)
        fallen = stepped(program, self.FULL, ("level", "f0", 0, tuple(point for point in everywhere if point != ("mid", 58)), 1))
        self.assertLess(len(deeds_at(fallen, 0, ("edge", 3, 0))), 10)
        self.assertEqual(judge(program, fallen)[0], "right")
        self.assertEqual(len(parts), 60)

    def test_logs(self):
        self.assertEqual(same_log(self.PROGRAM, self.FULL, self.FULL), ())
        for one, other in ((self.TOLD, self.FULL), (self.FULL, self.TOLD)):
            with self.assertRaises(TooGreat):
                same_log(self.PROGRAM, one, other)
        kinds, ((_, *head),) = line(58)
        program = (kinds, tuple((f"f{at}", *head) for at in range(12)))
        program = (kinds, (("f", *head),) + program[1][1:])
        told = one = other = placed(program)
        for index in range(12):
            for r in range(8):
                one = with_level(one, r, index + r, 40 + r, 5, index)
                other = with_level(other, r, 3 * r, 30 + 2 * index, 4, index)
        for first in (told, one, other):
            self.assertEqual(judge(program, first)[0], "right")
            for second in (told, one, other):
                log = same_log(program, first, second)
                self.assertEqual(replayed(program, first, log), second)
                self.assertLessEqual(len(log), 4000)

    def test_texts(self):
        text, full = write_text(self.PROGRAM, self.TOLD), write_text(self.PROGRAM, self.FULL)
        self.assertGreater(len(full), 2000000)
        self.assertEqual(read_text(full), (self.PROGRAM, self.FULL))
        self.assertEqual(read_text(text.replace(" ", "\n \n")), (self.PROGRAM, self.TOLD))
        with self.assertRaises(BadText) as context:
            read_text(full + "_")
        self.assertEqual(context.exception.place, len(full))
        self.assertEqual(settled(full), text)
        self.assertEqual(compared(text, text), ("right", ()))
        with self.assertRaises(TooGreat):
            compared(full, text)
        wrong = with_deeds(self.TOLD, 11, ("edge", 57, 5), free(15, 4) * 60)
        self.assertIs(is_placing(self.PROGRAM, wrong), True)
        told = compared(text, write_text(self.PROGRAM, wrong))
        self.assertEqual(told, ("broken", 1, judge(self.PROGRAM, wrong)[1:]))

    def test_texts_of_very_many_words(self):
        for text in ("kind A { " * 100000, "( " * 500000, "5" * 1000000, "-" * 1000000, "= -" * 300000, " " * 1000000):
            with self.assertRaises(BadText):
                read_text(text)
        head = "kind A { A ( ) } fun f ( A ) A { "
        for text in (head + "give r0 ; " * 100000 + "}", head + "{ " + "hold r0 " * 200000 + "} give r0 ; }",
                     head + "r1 = A ( " + "r0 , " * 200000 + "r0 ) -> 0 ; }"):
            with self.assertRaises(BadText) as context:
                read_text(text)
            self.assertEqual(context.exception.place, len(text))
        self.assertEqual(read_text(head + "\n" * 500000 + "give r0;}")[1], bare(program_of(("give", 0))))


if __name__ == "__main__":
    unittest.main()
