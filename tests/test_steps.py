"""[23]: steps, and logs of them."""

import unittest

from justfreed.errors import BadLog, NotLet
from justfreed.judging import is_placing, judge
from justfreed.machine import drive
from justfreed.placing import placed
from justfreed.rooms import reusing
from justfreed.steps import replayed, stepped
from tests.placings import bare, deeds_at, drop, free, hold, placing_of, spots_of, with_deeds, with_token
from tests.samples import LIST_PROGRAM, LOOP, ODD, SIZES, OwnList, cons, program_of

# Rows 0 to 2 one behind the other; the list is needed throughout.
LINE = program_of(("number", 1, 0, 1), ("number", 1, 0, 2), ("give", 0), params=("List",), result="List")
TOLD = placed(LINE)
# Two ways of different length to row 3, two nexts of row 0 that are the same row.
FORKS = program_of(("less", 1, 1, 1, 1), ("less", 1, 1, 2, 3), ("number", 2, 0, 3), ("give", 0), params=("List", "number"),
                   result="List")
EVERYWHERE = (("mid", 0), ("mid", 1), ("start", 0), ("start", 1), ("start", 2))
LET = ("spot", "f", ("entry",), hold(0) + drop(0))


def level(r, points, k, name="f"):
    return ("level", name, r, points, k)


def spot(where, deeds, name="f"):
    return ("spot", name, where, deeds)


class StepsTest(unittest.TestCase):
    def lets(self, program, placing, step, spots, index=0):
        """The step is let, and what comes is the placing with other deeds at these spots."""
        expected = placing
        for where, deeds in spots.items():
            expected = with_deeds(expected, index, where, deeds)
        self.assertEqual(stepped(program, placing, step), expected)
        self.assertEqual(replayed(program, placing, (step,)), expected)
        self.assertEqual(judge(program, expected)[0], "right")

    def refuses(self, program, placing, step):
        for call in (lambda: stepped(program, placing, step), lambda: replayed(program, placing, (step,))):
            with self.assertRaises(NotLet) as context:
                call()
            self.assertEqual(context.exception.index, 0)
            self.assertIs(type(context.exception.index), int)


class SpotTest(StepsTest):
    def test_each_sort_of_spot(self):
        idle = hold(0) + drop(0)
        for where in (("entry",), ("before", 0), ("edge", 0, 0), ("before", 1), ("edge", 1, 0), ("before", 2)):
            self.lets(LINE, TOLD, spot(where, idle), {where: idle})
            self.lets(LINE, with_deeds(TOLD, 0, where, idle), spot(where, ()), {where: ()})
            self.lets(LINE, TOLD, spot(where, ()), {})
        for where in (("edge", 0, 0), ("edge", 0, 1), ("edge", 1, 0), ("edge", 1, 1), ("edge", 2, 0)):
            self.lets(FORKS, bare(FORKS), spot(where, idle * 2), {where: idle * 2})

    def test_what_is_no_spot(self):
        for where in ((), ("entry", 0), ("before",), ("before", 3), ("before", -1), ("before", 0, 0), ("edge", 0), ("edge", 0, 1),
                      ("edge", 2, 0), ("edge", 3, 0), ("edge", 0, -1), ("edge", 0, 0, 0), ("mid", 0), ("start", 0), ("row", 0),
                      ("before", True), ("before", False), ("edge", False, 0), ("edge", 0, False), ("before", "0"), ("before", None),
                      ["entry"], ["before", 0], "entry", ("entry", ()), (("entry",),), (0,), (None,), 0) + ODD:
            self.refuses(LINE, TOLD, spot(where, ()))
        for where in (("edge", 0, 2), ("edge", 2, 1), ("edge", 3, 0)):
            self.refuses(FORKS, bare(FORKS), spot(where, ()))

    def test_what_is_no_deeds(self):
        for deeds in (list(hold(0) + drop(0)), ("hold", 0), (("hold", 32), ("drop", 32)), (("hold", True), ("drop", True)),
                      (("hold", 0, 0), ("drop", 0)), (["hold", 0], ("drop", 0)), (("free", 16, 0),), (("free", 0, 5),)) + ODD:
            self.refuses(LINE, TOLD, spot(("before", 1), deeds))

    def test_sixty_deeds(self):
        self.lets(LINE, TOLD, spot(("before", 1), (hold(0) + drop(0)) * 30), {("before", 1): (hold(0) + drop(0)) * 30})
        self.refuses(LINE, TOLD, spot(("before", 1), hold(0) + (hold(0) + drop(0)) * 30))
        self.refuses(LINE, TOLD, spot(("before", 1), (hold(0) + drop(0)) * 31))

    def test_what_is_not_right(self):
        for deeds in (hold(0), drop(0), drop(0) + hold(0), hold(1) + drop(1), hold(2) + drop(2), free(0, 0), hold(0) + drop(0, 0)):
            for where in (("entry",), ("before", 1), ("edge", 0, 0)):
                self.refuses(LINE, TOLD, spot(where, deeds))
        # What is held twice may be let go ahead of being held.
        more = placing_of(LINE, {("entry",): hold(0), ("before", 2): drop(0)})
        self.lets(LINE, more, spot(("before", 1), drop(0) + hold(0)), {("before", 1): drop(0) + hold(0)})

    def test_tokens(self):
        anew = reusing(LIST_PROGRAM)
        where = ("edge", 0, 0)
        self.assertEqual(deeds_at(anew, 0, where), free(0, 0))
        self.refuses(LIST_PROGRAM, anew, spot(where, (), "rev"))
        self.refuses(LIST_PROGRAM, anew, spot(where, free(0, 1), "rev"))
        self.refuses(LIST_PROGRAM, anew, spot(where, free(0, 0) * 2, "rev"))
        self.refuses(LIST_PROGRAM, anew, spot(("edge", 0, 1), free(0, 2), "rev"))
        self.refuses(LIST_PROGRAM, with_deeds(anew, 0, where, ()), spot(("entry",), (), "rev"))
        self.lets(LIST_PROGRAM, with_deeds(anew, 0, where, ()), spot(where, free(0, 0), "rev"), {where: free(0, 0)})
        kept = placing_of(SIZES, {}, {at: 4 for at in range(6)})
        self.refuses(SIZES, kept, spot(("edge", 0, 2), free(4, 2)))
        self.lets(SIZES, with_token(kept, 0, 3, None), spot(("edge", 0, 2), free(4, 2)), {("edge", 0, 2): free(4, 2)})

    def test_other_functions(self):
        told = placed(LIST_PROGRAM)
        idle = hold(0) + drop(0)
        for index, name in enumerate(("rev", "sum", "count", "sumloop", "same")):
            self.lets(LIST_PROGRAM, told, spot(("entry",), idle, name), {("entry",): idle}, index)
        for name in ("f", "Rev", "", None, 0, ["rev"], "List") + ODD:
            self.refuses(LIST_PROGRAM, told, spot(("entry",), (), name))


class LevelTest(StepsTest):
    def test_a_hold_more_at_some_points(self):
        # What leads in gets a hold behind its deeds, what leads out a drop ahead of them.
        idle = (hold(0) + drop(0)) * 2
        placing = with_deeds(with_deeds(TOLD, 0, ("before", 0), hold(0, 0) + drop(0, 0)), 0, ("edge", 1, 0), ())
        for points, spots in (
                ((("mid", 0),), {("before", 0): hold(0), ("edge", 0, 0): drop(0)}),
                ((("start", 0),), {("entry",): hold(0), ("before", 0): drop(0)}),
                ((("mid", 1), ("start", 1)), {("edge", 0, 0): hold(0), ("edge", 1, 0): drop(0)}),
                ((("mid", 0), ("mid", 1)), {("before", 0): hold(0), ("edge", 0, 0): drop(0), ("before", 1): hold(0),
                                            ("edge", 1, 0): drop(0)}),
                (EVERYWHERE, {("entry",): hold(0), ("before", 2): drop(0)})):
            self.lets(LINE, TOLD, level(0, points, 1), spots)
            for k in (2, 59, 60):
                self.lets(LINE, TOLD, level(0, points, k), {where: deeds * k for where, deeds in spots.items()})
            # Idle pairs that stand at these spots fall away as well, others do not.
            left = {where: () for where in (("before", 0),) if where in spots}
            self.lets(LINE, placing, level(0, points, 1), {**left, **spots})
            self.assertEqual(stepped(LINE, with_deeds(TOLD, 0, ("before", 2), ()), level(0, points, 1)),
                             stepped(LINE, TOLD, level(0, points, 1)))
        self.assertEqual(deeds_at(stepped(LINE, with_deeds(TOLD, 0, ("edge", 1, 0), idle), level(0, (("mid", 0),), 1)),
                                  0, ("edge", 1, 0)), idle)

    def test_a_hold_less(self):
        for points in ((("mid", 0),), (("start", 0),), (("mid", 1), ("start", 1)), (("mid", 0), ("mid", 1)), EVERYWHERE):
            for k in (1, 2, 30, 60):
                raised = stepped(LINE, TOLD, level(0, points, k))
                self.assertEqual(stepped(LINE, raised, level(0, points, -k)), TOLD)
                if k > 1:
                    self.assertEqual(stepped(LINE, raised, level(0, points, -1)), stepped(LINE, TOLD, level(0, points, k - 1)))
                self.refuses(LINE, raised, level(0, points, -k - 1) if k < 60 else level(1, points, -1))
            self.refuses(LINE, TOLD, level(0, points, -1))

    def test_all_edges_are_spots(self):
        raised = placing_of(FORKS, {("edge", 0, 0): hold(0), ("edge", 0, 1): hold(0), ("edge", 1, 0): drop(0), ("edge", 1, 1): drop(0)})
        self.assertEqual(stepped(FORKS, bare(FORKS), level(0, (("mid", 1), ("start", 1)), 1)), raised)
        raised = placing_of(FORKS, {("edge", 1, 1): hold(0), ("edge", 2, 0): hold(0), ("before", 3): drop(0)})
        self.assertEqual(stepped(FORKS, bare(FORKS), level(0, (("start", 3),), 1)), raised)
        # The row that leads in leads from row 0's end, and back to itself over the points.
        raised = placing_of(LOOP, {("before", 0): hold(0), ("edge", 0, 0): (), ("edge", 0, 1): drop(0), ("before", 1): drop(0)})
        self.assertEqual(stepped(LOOP, bare(LOOP), level(0, (("mid", 0), ("start", 1)), 1)), raised)
        raised = placing_of(LOOP, {("entry",): hold(0), ("edge", 0, 1): drop(0)})
        self.assertEqual(stepped(LOOP, bare(LOOP), level(0, (("mid", 0), ("mid", 1), ("start", 0), ("start", 1)), 1)), raised)

    def test_bounds_of_k(self):
        for k in (0, 61, -61, True, False, None, "1", 10 ** 30, (1,)) + ODD:
            self.refuses(LINE, TOLD, level(0, (("mid", 0),), k))
        for k in (60, 1):
            stepped(LINE, TOLD, level(0, (("mid", 0),), k))
        raised = stepped(LINE, TOLD, level(0, (("mid", 0),), 60))
        self.assertEqual(stepped(LINE, raised, level(0, (("mid", 0),), -60)), TOLD)
        # Sixty deeds would be left behind 61 as well.
        lowered = placing_of(LINE, {("entry",): hold(0), ("before", 0): drop(0), ("edge", 0, 0): hold(0), ("before", 2): drop(0)})
        raised = placing_of(LINE, {("entry",): hold(0), ("before", 0): hold(0) * 60, ("edge", 0, 0): drop(0) * 60, ("before", 2): drop(0)})
        self.assertEqual(judge(LINE, raised)[0], "right")
        self.refuses(LINE, lowered, level(0, (("mid", 0),), 61))
        self.refuses(LINE, raised, level(0, (("mid", 0),), -61))
        self.assertEqual(replayed(LINE, lowered, (level(0, (("mid", 0),), 1), level(0, (("mid", 0),), 60))), raised)
        self.assertEqual(replayed(LINE, raised, (level(0, (("mid", 0),), -1), level(0, (("mid", 0),), -60))), lowered)

    def test_what_is_no_points(self):
        for points in ((), (("start", 0), ("mid", 0)), (("mid", 1), ("mid", 0)), (("mid", 0), ("mid", 0)), (("mid", 3),),
                       (("mid", -1),), (("mid",),), (("mid", 0, 0),), (("middle", 0),), (("before", 0),), (("entry",),),
                       (("mid", True),), (("mid", False),), (["mid", 0],), [("mid", 0)], ("mid", 0), (("mid", "0"),),
                       (("start", 0), ("start", 0)), (("mid", 0), None), (("mid", 0), ()), (("mid", 0), ("start",)),
                       (("mid", 0), ("start", 60)), ((0, "mid"),), (None,), {("mid", 0): True}, "mid") + ODD:
            self.refuses(LINE, TOLD, level(0, points, 1))
        stepped(LINE, TOLD, level(0, (("mid", 0), ("start", 0)), 1))

    def test_what_is_no_register(self):
        for r in (32, -1, True, False, None, "0", (0,)) + ODD:
            self.refuses(LINE, TOLD, level(r, (("mid", 0),), 1))
        # Registers that are none held there.
        for r in (1, 2, 31):
            for k in (1, -1):
                self.refuses(LINE, TOLD, level(r, (("mid", 0),), k))

    def test_what_is_not_right(self):
        # A register that is held at a give, or where it is set.
        self.refuses(LINE, TOLD, level(0, (("mid", 2),), 1))
        program = program_of(("number", 1, 0, 1), ("make", 0, "Nil", (), 2), ("give", 0), params=("List",), result="List")
        told = placed(program)
        self.assertEqual(told, placing_of(program, {("entry",): drop(0)}))
        self.refuses(program, told, level(0, (("mid", 0),), 1))
        held = placing_of(program, {("before", 1): drop(0)})
        self.refuses(program, held, level(0, (("mid", 1),), 1))
        self.refuses(program, held, level(0, (("mid", 0), ("mid", 1)), -1))
        self.assertEqual(stepped(program, held, level(0, (("mid", 0), ("start", 0), ("start", 1)), -1)), told)
        self.assertEqual(stepped(program, told, level(0, (("mid", 0), ("start", 0), ("start", 1)), 1)), held)
        self.refuses(program, told, level(0, (("mid", 0), ("mid", 1), ("start", 0), ("start", 1)), 1))

    def test_both_signs_on_both_sides(self):
        begin = placing_of(LINE, {("entry",): hold(0, 0), ("before", 2): drop(0, 0)})
        points = (("mid", 0), ("start", 1))
        self.lets(LINE, begin, level(0, points, 1), {("before", 0): hold(0), ("before", 1): drop(0)})
        self.lets(LINE, begin, level(0, points, -1), {("before", 0): drop(0), ("before", 1): hold(0)})
        self.lets(LINE, begin, level(0, points, -2), {("before", 0): drop(0, 0), ("before", 1): hold(0, 0)})
        self.refuses(LINE, begin, level(0, points, -3))

    def test_neighbours_fall_away(self):
        begin = placing_of(LINE, {("entry",): hold(0) * 5, ("before", 2): drop(0) * 5})
        self.assertEqual(judge(LINE, begin)[0], "right")
        mid = (("mid", 0),)
        h, d = hold(0), drop(0)
        for ahead, k, behind in (
                # Put behind at before 0.
                (h, -1, ()), (h + h, -1, h), (d, 1, ()), (d + d, 1, d), (h, 1, h + h), (d, -1, d + d), (h, -3, d + d),
                (h + d, 1, h), (d + h, 1, h), (d + h, -1, d), (h + d, -1, d), (h + h + d + d, 2, h + h), (d + h + h + d, -1, d),
                (d + d + h + h + h, -1, ()), (h + d + d + h, 1, h), ((h + d) * 30, 1, h), (h * 30 + d * 30, 60, h * 60),
                ((d + h) * 29 + d, 2, h)):
            net = ahead.count(("hold", 0)) - ahead.count(("drop", 0))
            other = (d if net > 0 else h) * abs(net)
            placing = with_deeds(with_deeds(begin, 0, ("before", 0), ahead), 0, ("edge", 0, 0), other)
            if judge(LINE, placing)[0] == "right":
                told = stepped(LINE, placing, level(0, mid, k))
            else:
                told = replayed(LINE, placing, (level(0, mid, k),))
            self.assertEqual(deeds_at(told, 0, ("before", 0)), behind, (ahead, k))
            after = behind.count(("hold", 0)) - behind.count(("drop", 0))
            self.assertEqual(deeds_at(told, 0, ("edge", 0, 0)), (d if after > 0 else h) * abs(after), (ahead, k))

    def test_only_neighbours_of_the_register_fall_away(self):
        program = program_of(("number", 3, 0, 1), ("call", 2, "f", (0, 1), 2), ("give", 2), params=("List", "List"), result="List")
        begin = placing_of(program, {("entry",): hold(0, 0, 1, 1), ("before", 1): drop(0, 0, 1, 1)})
        self.assertEqual(judge(program, begin)[0], "right")
        one, other = hold(0), hold(1) + drop(1)
        for ahead, k, behind in (
                (one + hold(1) + drop(0), 1, one + hold(1)), (hold(1) + one, -1, hold(1)), (one + hold(1), -1, one + hold(1) + drop(0)),
                (other, 1, other + one), (one + other + drop(0), 1, one + other), (drop(0) + other + one, -1, drop(0) + other)):
            more = ahead.count(("hold", 1)) - ahead.count(("drop", 1))
            now = ahead.count(("hold", 0)) - ahead.count(("drop", 0))
            back = drop(*((0,) * max(now, 0) + (1,) * more)) + hold(*(0,) * max(-now, 0))
            placing = with_deeds(with_deeds(begin, 0, ("before", 0), ahead), 0, ("edge", 0, 0), back)
            self.assertEqual(judge(program, placing)[0], "right", ahead)
            told = stepped(program, placing, level(0, (("mid", 0),), k))
            self.assertEqual(deeds_at(told, 0, ("before", 0)), behind, ahead)

    def test_what_falls_away_on_the_side_that_leads_out(self):
        begin = placing_of(LINE, {("entry",): hold(0) * 5, ("before", 2): drop(0) * 5})
        h, d = hold(0), drop(0)
        for ahead, k, behind in ((d, -1, ()), (h, 1, ()), (h + d, 1, d), (d + h, -1, h), (d + h, 1, d), (d + d + h, -2, h)):
            net = ahead.count(("hold", 0)) - ahead.count(("drop", 0))
            placing = with_deeds(with_deeds(begin, 0, ("before", 0), (d if net > 0 else h) * abs(net)), 0, ("edge", 0, 0), ahead)
            told = stepped(LINE, placing, level(0, (("mid", 0),), k))
            self.assertEqual(deeds_at(told, 0, ("edge", 0, 0)), behind, (ahead, k))

    def test_more_than_sixty_deeds(self):
        full = placing_of(LINE, {("before", 0): hold(0) * 60, ("edge", 0, 0): drop(0) * 60})
        points = (("mid", 0),)
        self.assertEqual(judge(LINE, full)[0], "right")
        self.refuses(LINE, full, level(0, points, 1))
        self.assertEqual(stepped(LINE, full, level(0, points, -60)), TOLD)
        almost = stepped(LINE, full, level(0, points, -1))
        self.assertEqual(stepped(LINE, almost, level(0, points, 1)), full)
        self.refuses(LINE, almost, level(0, points, 2))
        # Sixty-one deeds that fall away again are no more than sixty.
        idle = placing_of(LINE, {("before", 0): (hold(0) + drop(0)) * 30})
        self.lets(LINE, idle, level(0, points, 60), {("before", 0): hold(0) * 60, ("edge", 0, 0): drop(0) * 60})
        # Deeds of other registers stay.
        two = program_of(("number", 3, 0, 1), ("call", 2, "f", (0, 1), 2), ("give", 2), params=("List", "List"), result="List")
        idle = placing_of(two, {("before", 0): (hold(1) + drop(1)) * 30})
        self.refuses(two, idle, level(0, points, 1))
        idle = placing_of(two, {("before", 0): (hold(1) + drop(1)) * 29})
        self.lets(two, idle, level(0, points, 2), {("before", 0): (hold(1) + drop(1)) * 29 + hold(0, 0), ("edge", 0, 0): drop(0, 0)})
        self.refuses(two, idle, level(0, points, 3))

    def test_tokens_stay(self):
        anew = reusing(LIST_PROGRAM)
        told = stepped(LIST_PROGRAM, anew, level(1, (("mid", 0), ("start", 0)), 1, "rev"))
        expected = with_deeds(anew, 0, ("entry",), hold(1))
        expected = with_deeds(expected, 0, ("edge", 0, 0), drop(1) + free(0, 0))
        expected = with_deeds(expected, 0, ("edge", 0, 1), drop(1))
        self.assertEqual(told, expected)


class OtherObjectsTest(StepsTest):
    def test_any_object(self):
        for thing in ODD + ((), ("spot",), ("level",), ("spot", "f"), ("spot", "f", ("entry",)), ("spot", "f", ("entry",), (), ()),
                            ("level", "f", 0, (("mid", 0),)), ("level", "f", 0, (("mid", 0),), 1, 1), list(LET), ("Spot",) + LET[1:],
                            ("step",) + LET[1:], (LET,), ("spot", "f", 0, (("mid", 0),), 1), ("level", "f", ("entry",), ()),
                            (True,) + LET[1:], (None,) + LET[1:], OwnList(LET), {"spot": "f"}):
            self.refuses(LINE, TOLD, thing)
        self.assertEqual(stepped(LINE, TOLD, LET), with_deeds(TOLD, 0, ("entry",), LET[3]))

    def test_steps_on_placings_that_are_not_right(self):
        wrong = placing_of(LINE, {("before", 1): drop(0)})
        self.assertEqual(judge(LINE, wrong)[0], "wrong")
        self.refuses(LINE, wrong, LET)
        self.lets(LINE, wrong, spot(("before", 1), ()), {("before", 1): ()})
        self.lets(LINE, wrong, spot(("edge", 0, 0), hold(0)), {("edge", 0, 0): hold(0)})
        wrong = placing_of(LINE, {("before", 1): drop(0) * 60})
        self.lets(LINE, wrong, spot(("edge", 0, 0), hold(0) * 60), {("edge", 0, 0): hold(0) * 60})
        # The deeds that were wrong fall away.
        wrong = placing_of(LINE, {("before", 0): drop(0)})
        behind = (("mid", 0), ("mid", 1), ("mid", 2), ("start", 1), ("start", 2))
        self.lets(LINE, wrong, level(0, behind, 1), {("before", 0): ()})
        self.refuses(LINE, wrong, level(0, behind, 2))
        self.refuses(LINE, wrong, level(0, behind, -1))
        wrong = placing_of(LINE, {("before", 0): drop(0) + hold(0)})
        self.lets(LINE, wrong, level(0, (("mid", 0),), 1), {("before", 0): hold(0), ("edge", 0, 0): drop(0)})

    def test_a_step_in_one_function_while_another_is_wrong(self):
        told = placed(LIST_PROGRAM)
        wrong = with_deeds(told, 0, ("entry",), hold(1))
        idle = spot(("entry",), hold(0) + drop(0), "sum")
        self.refuses(LIST_PROGRAM, wrong, idle)
        with self.assertRaises(NotLet) as context:
            replayed(LIST_PROGRAM, wrong, (spot(("entry",), (), "rev"), idle, spot(("entry",), hold(1), "rev")))
        self.assertEqual(context.exception.index, 2)


class LogsTest(StepsTest):
    def test_no_steps(self):
        for placing in (TOLD, placing_of(LINE, {("entry",): drop(0)})):
            self.assertEqual(replayed(LINE, placing, ()), placing)

    def test_several_steps(self):
        log = (level(0, (("mid", 0),), 2), level(0, (("mid", 1), ("start", 1)), 1), spot(("edge", 0, 0), drop(0)),
               level(0, (("mid", 0),), -2), level(0, (("mid", 1), ("start", 1)), -1))
        placing = TOLD
        for at, step in enumerate(log):
            placing = stepped(LINE, placing, step)
            self.assertIs(is_placing(LINE, placing), True)
            self.assertEqual(replayed(LINE, TOLD, log[:at + 1]), placing)
        self.assertEqual(placing, TOLD)

    def test_the_index_of_the_first_step_that_is_not_let(self):
        good = (LET, spot(("entry",), ()))
        for bad in (None, (), spot(("entry",), hold(0)), level(0, EVERYWHERE, -1), level(0, EVERYWHERE, 0), LET[:3]) + ODD:
            for many in (0, 1, 2, 5):
                log = (good * 3)[:many] + (bad,) + good + (None,)
                with self.assertRaises(NotLet) as context:
                    replayed(LINE, TOLD, log)
                self.assertEqual(context.exception.index, many)

    def test_steps_that_are_right_only_together(self):
        # The second one would make it right again.
        log = (spot(("before", 0), hold(0)), spot(("edge", 0, 0), drop(0)))
        with self.assertRaises(NotLet) as context:
            replayed(LINE, TOLD, log)
        self.assertEqual(context.exception.index, 0)

    def test_how_many_steps(self):
        good = (LET, spot(("entry",), ()))
        self.assertEqual(replayed(LINE, TOLD, good * 2000), TOLD)
        self.assertEqual(replayed(LINE, TOLD, good * 1999 + good[:1]), stepped(LINE, TOLD, LET))
        for log in (good * 2000 + good[:1], (None,) * 4001):
            with self.assertRaises(BadLog):
                replayed(LINE, TOLD, log)
        with self.assertRaises(NotLet) as context:
            replayed(LINE, TOLD, good * 1999 + good[:1] + (None,))
        self.assertEqual(context.exception.index, 3999)

    def test_what_is_no_log(self):
        for log in (None, [], [LET], "", {}, LET[0], 0, True, OwnList((LET,)), iter((LET,))) + tuple(
                thing for thing in ODD if type(thing) is not tuple):
            with self.assertRaises(BadLog):
                replayed(LINE, TOLD, log)
        with self.assertRaises(NotLet) as context:
            replayed(LINE, TOLD, LET)
        self.assertEqual(context.exception.index, 0)

    def test_logs_on_placings_that_are_not_right(self):
        wrong = placing_of(LINE, {("before", 1): drop(0)})
        self.assertEqual(replayed(LINE, wrong, ()), wrong)
        self.assertEqual(replayed(LINE, wrong, (spot(("before", 1), ()), LET)), stepped(LINE, TOLD, LET))
        with self.assertRaises(NotLet) as context:
            replayed(LINE, wrong, (LET, spot(("before", 1), ())))
        self.assertEqual(context.exception.index, 0)

    def test_a_run_of_the_placing_behind_a_log(self):
        # The sum is done whatever is held more.
        told = placed(LIST_PROGRAM)
        log = (level(0, (("start", 0),), 3, "sum"), level(2, (("mid", 1),), 1, "sum"), spot(("entry",), hold(0, 0, 0), "sum"))
        with self.assertRaises(NotLet):
            replayed(LIST_PROGRAM, told, log[:1] + (level(1, (("mid", 1),), 1, "sum"),))
        placing = replayed(LIST_PROGRAM, told, log[:1] + log[2:])
        self.assertEqual(judge(LIST_PROGRAM, placing)[0], "right")
        self.assertEqual(drive(LIST_PROGRAM, placing, "sum", (cons([1, 2]),), 100)[:2], ("ended", 3))


if __name__ == "__main__":
    unittest.main()
