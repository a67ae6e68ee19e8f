"""[24]: a log that leads from one right placing to another one."""

import random
import unittest

from justfreed.checks import check
from justfreed.errors import HasTokens, NotLet, NotRight, TooGreat
from justfreed.judging import judge
from justfreed.placing import placed
from justfreed.rooms import reusing
from justfreed.steps import replayed, same_log, stepped
from tests.placings import bare, deeds_at, drop, hold, placing_of, spots_of, with_deeds
from tests.samples import LIST_PROGRAM, LOOP, PAIRS, SIZES, TWO, program_of


def line(many, called=8):
    """Rows one behind the other through which so many lists are needed, till a call takes them all."""
    rows = [("number", 9, 0, at + 1) for at in range(many)]
    return program_of(*rows, ("call", 9, "f", tuple(range(called)), many + 1), ("give", 9), params=("List",) * called, result="List")


def forking(chance, many):
    """Such rows that lead back or on over others now and then."""
    rows = [("number", 8, 0, 1)]
    rows += [("less", 8, 8, at + 2, chance.choice((at + 2, chance.randrange(at + 3)))) for at in range(many)]
    return program_of(*rows, ("call", 9, "f", tuple(range(8)), many + 2), ("give", 9), params=("List",) * 8, result="List")


def deeds_in(placing):
    return sum(len(deeds_at(placing, index, spot)) for index, spot in spots_of(placing))


def most_deeds(placing):
    return max(len(deeds_at(placing, index, spot)) for index, spot in spots_of(placing))


def with_level(placing, r, first, last, k=1, index=0):
    """k holds more of a register from the mid of one row of a line to the start of another one."""
    for spot, deeds in ((("before", first), hold(r) * k), (("edge", last - 1, 0), drop(r) * k)):
        placing = with_deeds(placing, index, spot, deeds_at(placing, index, spot) + deeds)
    return placing


class SameLogTest(unittest.TestCase):
    def leads(self, program, one, other, most=None):
        """The log is taken step by step; each placing behind one is right, and the last one is the other one."""
        log = same_log(program, one, other)
        self.assertIs(type(log), tuple)
        self.assertLessEqual(len(log), 4000)
        self.assertEqual(log == (), one == other)
        self.assertEqual(replayed(program, one, log), other)
        placing = one
        for step in log[:most]:
            placing = stepped(program, placing, step)
            self.assertEqual(judge(program, placing)[0], "right")
        if most is None:
            self.assertEqual(placing, other)
        return log

    def both(self, program, one, other, most=None):
        self.leads(program, one, other, most)
        self.leads(program, other, one, most)


class PlainTest(SameLogTest):
    LINE = line(4, 2)
    TOLD = placed(LINE)

    def test_equal_placings(self):
        for program in (self.LINE, LOOP, TWO, LIST_PROGRAM, PAIRS):
            told = placed(program)
            self.assertEqual(same_log(program, told, told), ())
        full = self.TOLD
        for index, spot in spots_of(full):
            if spot[0] != "before" or spot[1] < 4:
                full = with_deeds(full, index, spot, (hold(0) + drop(0)) * 30 if spot != ("edge", 4, 0) else ())
        self.assertEqual(judge(self.LINE, full)[0], "right")
        self.assertEqual(same_log(self.LINE, full, full), ())
        self.assertEqual(same_log(self.LINE, full, tuple(list(full))), ())

    def test_more_holds(self):
        for first, last in ((0, 1), (0, 4), (1, 3), (2, 3)):
            for k in (1, 2, 28):
                self.both(self.LINE, self.TOLD, with_level(self.TOLD, 0, first, last, k))
                self.both(self.LINE, with_level(self.TOLD, 1, 1, 2), with_level(self.TOLD, 0, first, last, k))

    def test_one_above_the_other_and_below(self):
        for one, other in (((0, 2), (2, 4)), ((0, 2), (1, 4)), ((1, 2), (0, 4)), ((0, 1), (3, 4))):
            self.both(self.LINE, with_level(self.TOLD, 0, *one), with_level(self.TOLD, 0, *other))
            self.both(self.LINE, with_level(self.TOLD, 0, *one, 3), with_level(self.TOLD, 0, *other, 5))

    def test_levels_on_levels(self):
        one = with_level(with_level(with_level(self.TOLD, 0, 0, 4), 0, 1, 3, 2), 0, 2, 3, 3)
        other = with_level(with_level(self.TOLD, 0, 0, 2, 4), 0, 1, 4, 1)
        self.both(self.LINE, one, self.TOLD)
        self.both(self.LINE, one, other)

    def test_drops_that_come_late(self):
        # Register 1 is not needed; it is let go at the entry, or anywhere behind.
        program = program_of(*[("number", 2, 0, at + 1) for at in range(3)], ("give", 0), params=("List", "List"), result="List")
        told = placed(program)
        self.assertEqual(deeds_at(told, 0, ("entry",)), drop(1))
        late = [placing_of(program, {spot: drop(1)}) for spot in (("before", 0), ("edge", 0, 0), ("before", 2), ("before", 3))]
        for one in [told] + late:
            for other in [told] + late:
                self.leads(program, one, other)
                self.leads(program, with_deeds(one, 0, ("edge", 1, 0), deeds_at(one, 0, ("edge", 1, 0)) + hold(0) + drop(0)), other)
        held = placing_of(program, {("entry",): hold(1, 1), ("before", 2): drop(1, 1, 1)})
        for other in [told] + late:
            self.both(program, held, other)

    def test_a_register_that_is_held_oftener_where_it_need_not_be_held_at_all(self):
        # Were it not lowered from above, and raised from below, it would be held once more where there is no hold.
        program = program_of(*[("number", 2, 0, at + 1) for at in range(5)], ("give", 0), params=("List", "List"), result="List")
        told = placed(program)
        twice = placing_of(program, {("before", 0): hold(1), ("before", 2): drop(1, 1)})
        thrice = placing_of(program, {("before", 0): hold(1), ("before", 1): hold(1), ("before", 2): drop(1), ("edge", 3, 0): drop(1, 1)})
        steeply = placing_of(program, {("before", 1): hold(1), ("edge", 1, 0): hold(1, 1, 1), ("before", 3): drop(*(1,) * 5)})
        for one in (told, twice, thrice, steeply):
            self.assertEqual(judge(program, one)[0], "right")
            for other in (told, twice, thrice, steeply):
                self.leads(program, one, other)

    def test_idle_pairs(self):
        for idle in (hold(0) + drop(0), (hold(0) + drop(0)) * 14, hold(0, 1) + drop(0, 1), hold(0, 0) + drop(0, 0) + hold(1) + drop(1)):
            for spot in (("entry",), ("before", 0), ("edge", 1, 0), ("before", 4)):
                deeds = deeds_at(self.TOLD, 0, spot)
                self.both(self.LINE, self.TOLD, with_deeds(self.TOLD, 0, spot, idle + deeds))
                self.both(self.LINE, with_level(self.TOLD, 0, 0, 3), with_deeds(self.TOLD, 0, spot, idle + deeds))

    def test_idle_pairs_among_what_is_raised_and_lowered(self):
        more = with_level(self.TOLD, 0, 0, 4, 2)
        # Rights in the one by what it holds more there alone.
        for idle in (drop(0) + hold(0), drop(0, 0) + hold(0, 0), hold(0) + drop(0, 0) + hold(0)):
            for spot in (("before", 1), ("edge", 1, 0), ("before", 3)):
                one = with_deeds(more, 0, spot, idle)
                self.both(self.LINE, one, self.TOLD)
                self.both(self.LINE, one, with_level(self.TOLD, 1, 1, 3))
                self.both(self.LINE, one, more)

    def test_deeds_in_another_order(self):
        one = placing_of(self.LINE, {("entry",): hold(0, 0, 1), ("before", 2): drop(0, 0, 1)})
        for first in (hold(0, 1, 0), hold(1, 0, 0), hold(0) + drop(0) + hold(1, 0, 0)):
            for second in (drop(0, 1, 0), drop(1, 0, 0), drop(1, 0) + hold(0) + drop(0, 0)):
                self.both(self.LINE, one, placing_of(self.LINE, {("entry",): first, ("before", 2): second}))

    def test_the_same_register_last_here_and_first_there(self):
        # The spot in the middle leads into what is lowered, and out of what is raised, of both registers.
        one = with_level(with_level(self.TOLD, 0, 1, 4, 3), 1, 1, 4, 3)
        other = with_level(with_level(self.TOLD, 1, 0, 2, 3), 0, 0, 2, 3)
        spot = ("before", 1)
        mixed = with_deeds(one, 0, spot, hold(1, 0, 1, 0, 1, 0))
        self.assertEqual(judge(self.LINE, mixed)[0], "right")
        self.both(self.LINE, mixed, other)

    def test_several_functions(self):
        told = placed(LIST_PROGRAM)
        one = with_deeds(told, 0, ("entry",), hold(0) + drop(0))
        other = with_deeds(with_deeds(told, 2, ("entry",), hold(0)), 2, ("before", 0), drop(0))
        self.both(LIST_PROGRAM, one, other)
        self.assertEqual({step[1] for step in same_log(LIST_PROGRAM, one, other)}, {"rev", "count"})

    def test_loops_and_forks(self):
        more = placing_of(LOOP, {("entry",): hold(0), ("edge", 0, 1): drop(0)})
        round_and_round = placing_of(LOOP, {("edge", 0, 0): hold(0), ("before", 1): drop(0)})
        self.both(LOOP, more, round_and_round)
        self.both(LOOP, more, bare(LOOP))
        self.both(LOOP, round_and_round, bare(LOOP))

    def test_a_register_that_is_held_nowhere_for_a_while(self):
        # Register 0 is used up in row 0 and set again in row 2; in between it may not be asked for.
        program = program_of(("make", 1, "Cons", (2, 0), 1), ("number", 3, 0, 2), ("make", 0, "Nil", (), 3), ("number", 3, 0, 4),
                             ("make", 4, "Cons", (2, 0), 5), ("give", 1), params=("List", "List", "number"), result="List")
        told = placed(program)
        self.assertIsNone(check(program))
        one = with_deeds(with_deeds(told, 0, ("edge", 2, 0), hold(0, 0)), 0, ("before", 4), drop(0, 0))
        late = with_deeds(with_deeds(told, 0, ("before", 0), hold(0)), 0, ("before", 2), drop(0))
        for other in (told, one, late):
            self.assertEqual(judge(program, other)[0], "right")
            for first in (told, one, late):
                self.leads(program, first, other)


class RefusedTest(SameLogTest):
    def test_tokens(self):
        kept = placing_of(SIZES, {}, {at: 4 for at in range(6)})
        alone = reusing(PAIRS)
        for program, with_tokens in ((SIZES, kept), (LIST_PROGRAM, reusing(LIST_PROGRAM))):
            told = placed(program)
            self.assertNotEqual(with_tokens, told)
            for one, other in ((with_tokens, told), (told, with_tokens), (with_tokens, with_tokens)):
                with self.assertRaises(HasTokens):
                    same_log(program, one, other)
        self.leads(PAIRS, alone, placed(PAIRS))

    def test_placings_that_are_not_right(self):
        falls = placing_of(LOOP, {("entry",): drop(0)})
        leaves = placing_of(LOOP, {("entry",): hold(0)})
        told = bare(LOOP)
        for one, other, way in ((falls, told, judge(LOOP, falls)[1:]), (told, falls, judge(LOOP, falls)[1:]),
                                (falls, leaves, judge(LOOP, falls)[1:]), (leaves, falls, judge(LOOP, leaves)[1:]),
                                (falls, falls, judge(LOOP, falls)[1:])):
            with self.assertRaises(NotRight) as context:
                same_log(LOOP, one, other)
            self.assertEqual(context.exception.way, way)

    def test_tokens_are_looked_for_behind_what_is_not_right(self):
        kept = placing_of(SIZES, {}, {at: 4 for at in range(6)})
        falls = placing_of(SIZES, {("entry",): drop(0)})
        for one, other in ((kept, falls), (falls, kept)):
            with self.assertRaises(NotRight):
                same_log(SIZES, one, other)


class GreatTest(SameLogTest):
    def full_line(self, chance, program, budget, width, k, idle):
        """The told placing of a line or such rows, with levels and idle pairs in it, shuffled, as many as the budget."""
        placing = placed(program)
        many = len(program[1][0][3]) - 2
        for _ in range(250):
            r, first = chance.randrange(8), chance.randrange(many)
            last = min(many, first + 1 + chance.randrange(width))
            if chance.random() < idle:
                _, spot = chance.choice(spots_of(placing)[:2 * many])
                deeds = deeds_at(placing, 0, spot)
                at = chance.randint(0, len(deeds))
                changed = with_deeds(placing, 0, spot, deeds[:at] + hold(r) + drop(r) + deeds[at:])
            else:
                points = tuple((word, at) for word in ("mid", "start") for at in range(first, last))
                try:
                    changed = stepped(program, placing, ("level", "f", r, points, chance.randint(1, k)))
                except NotLet:
                    continue
            if deeds_in(changed) <= budget and most_deeds(changed) <= 28:
                placing = changed
        for _, spot in spots_of(placing):
            deeds = deeds_at(placing, 0, spot)
            shuffled = with_deeds(placing, 0, spot, tuple(chance.sample(deeds, len(deeds))))
            placing = shuffled if judge(program, shuffled)[0] == "right" else placing
        return placing

    def test_up_to_1000_deeds_and_28_at_a_spot(self):
        sizes = []
        for seed in range(6):
            chance = random.Random(seed)
            program = line(chance.choice((5, 20, 57))) if seed % 2 else forking(chance, chance.choice((5, 20, 57)))
            self.assertIsNone(check(program))
            many, width, k, idle = chance.choice((100, 500)), chance.choice((1, 4, 40)), chance.choice((1, 5, 28)), chance.choice((0, 0.3))
            one, other = (self.full_line(chance, program, many, width, k, idle) for _ in range(2))
            self.assertLessEqual(deeds_in(one) + deeds_in(other), 1000)
            self.leads(program, one, other, 3)
            sizes.append((deeds_in(one) + deeds_in(other), most_deeds(one)))
        self.assertGreater(max(many for many, _ in sizes), 900)
        self.assertGreater(max(many for _, many in sizes), 25)

    def test_each_deed_by_itself(self):
        # Of eight registers, levels on levels; each spot has one deed of each register, in an order of its own.
        program = line(58)
        told = placed(program)
        chance = random.Random(1)
        one = other = told
        for at in range(31):
            for placing_at, first, last in ((0, at, 58 - at), (1, at, at + 27)):
                order = chance.sample(range(8), 8)
                for r in order:
                    if placing_at == 0 and first < last:
                        one = with_level(one, r, first, last)
                    if placing_at == 1:
                        other = with_level(other, r, first, last)
        self.assertEqual(judge(program, one)[0], "right")
        self.assertEqual(judge(program, other)[0], "right")
        self.assertGreater(deeds_in(one) + deeds_in(other), 900)
        self.assertLessEqual(deeds_in(one) + deeds_in(other), 1000)
        self.both(program, one, other, 3)

    def test_28_deeds_against_28(self):
        # At one spot 28 holds of seven registers, and 28 drops of them.
        program = line(6)
        one = other = placed(program)
        for r in range(7):
            one = with_level(one, r, 2, 5, 4)
            other = with_level(other, r, 0, 2, 4)
        other = with_deeds(other, 0, ("edge", 1, 0), ())
        for r in range(7):
            other = with_deeds(other, 0, ("before", 2), deeds_at(other, 0, ("before", 2)) + drop(r) * 4)
        self.assertEqual(judge(program, other)[0], "right")
        self.assertEqual([most_deeds(one), most_deeds(other)], [28, 28])
        self.both(program, one, other)

    def test_held_hundreds_of_times(self):
        program = line(58, 1)
        one = placed(program)
        for at in range(17):
            one = with_deeds(one, 0, ("before", at), hold(0) * 28)
            one = with_deeds(one, 0, ("before", at + 30), drop(0) * 28)
        self.assertEqual(judge(program, one)[0], "right")
        self.assertEqual(deeds_in(one), 952)
        self.both(program, one, placed(program))
        self.both(program, one, with_level(placed(program), 0, 20, 40, 20))

    def test_logs_that_would_be_too_long(self):
        # Eight registers, each of them held once more at each row of one half, and once less at each of the other one.
        kinds, ((_, *head),) = line(58)
        program = (kinds, (("f", *head),) + tuple((f"f{at}", *head) for at in range(11)))
        one = placed(program)
        for index in range(12):
            for at in range(28):
                for r in range(8):
                    one = with_level(one, (r + at) % 8, at, 58 - at, 1, index)
        self.assertEqual(judge(program, one)[0], "right")
        for first, second in ((one, placed(program)), (placed(program), one)):
            try:
                self.leads(program, first, second, 1)
            except TooGreat:
                self.assertGreater(deeds_in(one), 5000)

    def test_beyond(self):
        # A log, or TooGreat; what is more is not promised.
        program = line(20, 2)
        told = placed(program)
        full = with_deeds(with_deeds(told, 0, ("before", 3), hold(0) * 60), 0, ("edge", 3, 0), drop(0) * 60)
        twice = with_deeds(with_deeds(with_deeds(told, 0, ("before", 1), hold(0) * 60), 0, ("before", 3), drop(0) * 60),
                           0, ("entry",), hold(1) * 30 + drop(1) * 30)
        idle = told
        for index, spot in spots_of(told)[:38]:
            idle = with_deeds(idle, index, spot, (hold(1) + drop(1)) * 30)
        others = with_deeds(with_deeds(told, 0, ("before", 3), hold(1) * 60), 0, ("edge", 3, 0), drop(1) * 60)
        mixed = with_deeds(with_deeds(told, 0, ("before", 1), hold(0) * 60), 0, ("before", 3), drop(0) * 60)
        placings = (told, full, twice, idle, others, mixed)
        answers = []
        for one in placings:
            self.assertEqual(judge(program, one)[0], "right")
            for other in placings:
                try:
                    self.leads(program, one, other, 3)
                    answers.append("log")
                except TooGreat:
                    self.assertNotEqual(one, other)
                    self.assertTrue(deeds_in(one) + deeds_in(other) > 1000 or max(most_deeds(one), most_deeds(other)) > 28)
                    answers.append("great")
        self.assertGreater(answers.count("log"), 6)


if __name__ == "__main__":
    unittest.main()
