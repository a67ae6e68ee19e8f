"""[8] to [19] for greatest programs and placings: twelve functions, sixty rows, sixty deeds at each spot."""

import time
import unittest

from justfreed.errors import TooGreat
from justfreed.judging import is_placing, is_table, is_wrong, judge
from justfreed.placing import dearer, deeds_on, held_more, placed
from justfreed.rooms import in_place, reusing, used_anew
from justfreed.ways import comes_to, first_way, needs, use_ahead
from tests.placings import deeds_at, drop, hold, spots_of, with_deeds
from tests.samples import chain, program_of
from tests.test_greatest import great_program

# Far above what is needed, so that a busy machine does not make the tests fail.
SECONDS = 60

PARTS = (("Part", tuple((f"P{at}", ()) for at in range(6))),)


def stuffed(placing, r):
    """As many pairs of a hold and a drop of a register ahead of the deeds of each spot, but for gives, as fit there."""
    found = []
    for entry, rows in placing:
        new = []
        for before, token, edges in rows:
            new.append((filled(before, r) if edges else before, token, tuple(filled(edge, r) for edge in edges)))
        found.append((filled(entry, r), tuple(new)))
    return tuple(found)


def filled(deeds, r):
    return (("hold", r), ("drop", r)) * ((60 - len(deeds)) // 2) + deeds


def forks(gaps, back, many=59):
    """Matches of one register, one behind the other, that put as many holds more as gaps tells on their branches.

    The last branches may lead some rows back. The numbers of holds with which ways come to a row are very many.
    """
    rows, parts = [], []
    for at in range(many):
        rows.append(("match", 0, tuple(((), max(0, at - back) if back and branch == 5 else at + 1) for branch in range(6))))
        parts.append((hold(0), None, tuple(hold(0) * gap for gap in gaps)))
    program = program_of(*rows, ("give", 0), params=("Part",), result="Part", kinds=PARTS)
    return program, (((), tuple(parts) + (((), None, ()),)),)


class GreatestPlacingsTest(unittest.TestCase):
    def setUp(self):
        self.begin = time.monotonic()

    def tearDown(self):
        self.assertLess(time.monotonic() - self.begin, SECONDS)

    def test_ways(self):
        for away, first_use in ((0, (5,)), (1, (0,) * 7), (58, (5,))):
            program = great_program(away)
            for name in ("f0", "f11"):
                self.assertEqual(len(needs(program, name)), 60)
                self.assertEqual(needs(program, name)[0], tuple(range(8)))
                self.assertEqual(needs(program, name)[59], (9,))
                self.assertEqual(len(first_way(program, name, 57)), 57)
                self.assertEqual(use_ahead(program, name, 1, 0), first_use)
                self.assertIsNone(use_ahead(program, name, 59, 0))
                self.assertEqual(comes_to(program, name, (0,) * 59), 59)
        round_and_round = ((0,) * 57 + (5,)) * 68 + (0,) * 56
        self.assertEqual(len(round_and_round), 4000)
        self.assertEqual(comes_to(great_program(0), "f7", round_and_round), 56)

    def test_told_placings(self):
        for away in (0, 58):
            program = great_program(away)
            for placing in (placed(program), reusing(program)):
                self.assertIs(is_placing(program, placing), True)
                word, tables = judge(program, placing)
                self.assertEqual(word, "right")
                self.assertEqual([len(tables), len(tables[11])], [12, 60])
                self.assertIs(is_table(program, placing, tables), True)
                self.assertIs(is_wrong(program, placing, ("f0", (), ("use", 0))), False)
                self.assertEqual(held_more(program, placing), ())
                self.assertIsNone(dearer(program, placing))
                self.assertEqual(in_place(program, placing), ())

    def test_sixty_deeds_at_each_spot(self):
        program = great_program(0)
        placing = stuffed(placed(program), 0)
        # Nothing holds register 0 from the call in row 58 on, as it takes all that is there.
        for index in range(12):
            placing = with_deeds(placing, index, ("edge", 58, 0), hold(9) * 30 + drop(9) * 30)
        self.assertGreater([len(deeds_at(placing, index, spot)) for index, spot in spots_of(placing)].count(60), 12 * 200)
        self.assertIs(is_placing(program, placing), True)
        word, tables = judge(program, placing)
        self.assertEqual(word, "right")
        self.assertIs(is_table(program, placing, tables), True)
        self.assertEqual(held_more(program, placing), ())
        self.assertEqual(dearer(program, placing), ("f0", (0,) * 59))
        self.assertEqual(in_place(program, placing), ())
        self.assertGreater(deeds_on(program, placing, "f0", (0,) * 59), 60 * 59)

    def test_the_longest_way_with_the_most_deeds(self):
        program = great_program(0)
        placing = stuffed(placed(program), 0)
        way = ((0,) * 57 + (5,)) * 68 + (0,) * 56
        self.assertGreater(deeds_on(program, placing, "f0", way), 4000 * 100)
        self.assertEqual(used_anew(program, placing, "f0", way), 0)
        self.assertIs(is_wrong(program, placing, ("f0", way, ("hold", 0))), False)
        word, name, first, fault = judge(program, placing)
        self.assertEqual((word, name, first, fault), ("wrong", "f0", (0,) * 59, ("hold", 0)))
        ended = ((0,) * 57 + (5,)) * 67 + (0,) * 59
        self.assertIs(is_wrong(program, placing, ("f0", ended, ("hold", 0))), True)
        self.assertIs(is_wrong(program, placing, ("f0", ended, ("use", 0))), False)

    def test_wrong_in_the_last_function(self):
        program = great_program(0)
        placing = placed(program)
        for index, spot in spots_of(placing):
            if index == 11 and spot[0] == "edge" and spot[1] < 58:
                deeds = deeds_at(placing, index, spot)
                placing = with_deeds(placing, index, spot, deeds + hold(0) * (60 - len(deeds)))
        word, name, way, fault = judge(program, placing)
        self.assertEqual((word, name, way, fault), ("wrong", "f11", (0,) * 59, ("left", 0)))
        self.assertIs(is_wrong(program, placing, (name, way, fault)), True)

    def test_very_many_numbers_of_holds(self):
        for gaps in ((0, 1, 2, 3, 4, 5), (5, 4, 3, 2, 1, 0), (60, 59, 58, 57, 56, 55), (60, 51, 37, 22, 11, 0),
                     (0, 11, 22, 37, 51, 60), (30, 0, 60, 7, 53, 1)):
            for back in (0, 1, 7, 30, 58):
                program, placing = forks(gaps, back)
                word, name, way, fault = judge(program, placing)
                self.assertEqual((word, name, fault), ("wrong", "f", ("left", 0)))
                # Each way to the give leaves something, unless it brings none at all.
                self.assertEqual(way, (0,) * 59 if gaps[0] else (0,) * 58 + (1,))

    def test_very_many_numbers_of_deeds(self):
        for gaps in ((30, 29, 28, 27, 26, 25), (30, 24, 17, 11, 5, 0), (0, 5, 11, 17, 24, 30), (0, 0, 0, 0, 1, 0)):
            for back in (0, 7, 58):
                program, _ = forks((0,) * 6, back)
                parts = [(hold(0), None, tuple((hold(0) + drop(0)) * gap for gap in gaps)) for _ in range(59)]
                placing = (((), tuple(parts) + (((), None, ()),)),)
                self.assertEqual(judge(program, placing)[0], "right")
                last = 0 if gaps[0] else 1 if gaps[1] else 4
                self.assertEqual(dearer(program, placing), ("f", (0,) * 58 + (last,)))

    def test_deeds_that_are_more_on_the_way_back_alone(self):
        # All of the last branches lead back to row 0; that of row 58 alone does more.
        program, _ = forks((0,) * 6, 58)
        edges = ((),) * 5 + (hold(0) + drop(0),)
        placing = (((), ((hold(0), None, ((),) * 6),) * 58 + ((hold(0), None, edges), ((), None, ()))),)
        self.assertEqual(dearer(program, placing), ("f", (0,) * 58 + (5,) + (0,) * 59))

    def test_tokens(self):
        kinds, (function,) = chain(16, 43)
        program = (kinds, tuple((f"f{at}",) + function[1:] for at in range(12)))
        placing = reusing(program)
        self.assertEqual(len(function[3]), 60)
        self.assertEqual(judge(program, placing)[0], "right")
        for index in range(12):
            self.assertEqual(used_anew(program, placing, f"f{index}", (0,) * 59), 16)
        self.assertEqual(in_place(program, placing), ())
        program = (kinds, tuple((f"f{at}",) + chain(29, 30)[1][0][1:] for at in range(12)))
        with self.assertRaises(TooGreat):
            reusing(program)


if __name__ == "__main__":
    unittest.main()
