"""[26]: settled and compared."""

import re
import unittest

from justfreed.errors import BadText, NotChecked, TooGreat, Unlike
from justfreed.judging import judge
from justfreed.placing import placed
from justfreed.rooms import reusing
from justfreed.steps import replayed, same_log
from justfreed.texts import read_text, write_text
from justfreed.whole import compared, settled
from tests.placings import bare, drop, hold, placing_of, with_deeds
from tests.samples import GIVE, LIST_PROGRAM, LOOP, ODD, PAIRS, SIZES, TWO, program_of
from tests.test_same_log import line

UNCHECKED = program_of(("give", 0))
WRONG_TEXT = "kind List { Nil ( ) } fun f ( ) number { give r0 , }"
MORE = placing_of(LOOP, {("entry",): hold(0), ("edge", 0, 1): drop(0)})
ROUND = placing_of(LOOP, {("edge", 0, 0): hold(0), ("before", 1): drop(0)})
FALLS = placing_of(LOOP, {("entry",): drop(0)})
LEAVES = placing_of(LOOP, {("entry",): hold(0)})


def told_otherwise(text):
    """The text with other blanks, and noughts ahead of the rows' numbers."""
    return "\n " + re.sub(r"-> ([0-9])", r"->00\1", text).replace(" ", "\n").replace("\n;", ";") + "  "


class SettledTest(unittest.TestCase):
    def test_the_told_placing_whatever_its_own_is(self):
        for program in (LIST_PROGRAM, LOOP, TWO, PAIRS, SIZES, GIVE):
            told = write_text(program, placed(program))
            for placing in (placed(program), reusing(program), bare(program)):
                text = write_text(program, placing)
                self.assertEqual(settled(text), told)
                self.assertIs(type(settled(text)), str)
            self.assertEqual(settled(told), told)
            self.assertEqual(read_text(settled(told)), (program, placed(program)))
        for placing in (MORE, ROUND, FALLS, LEAVES, placing_of(LOOP, {("entry",): hold(31) * 60 + ()})):
            self.assertEqual(settled(write_text(LOOP, placing)), write_text(LOOP, placed(LOOP)))

    def test_texts_told_otherwise(self):
        text = write_text(TWO, bare(TWO))
        self.assertEqual(settled(told_otherwise(text)), write_text(TWO, placed(TWO)))
        self.assertIn("entry { drop r1 } ;", settled(text))
        self.assertEqual(settled("kind List{Nil()Cons(number,List)}fun f(List,List)List{entry{};{}give r0;}"), settled(text))

    def test_wrong_texts(self):
        for text, place in ((WRONG_TEXT, WRONG_TEXT.index(",")), ("", 0), ("kind", 4), (None, 0), (b"", 0), ("kind A { A ( B ) }", 18)):
            with self.assertRaises(BadText) as context:
                settled(text)
            self.assertEqual(context.exception.place, place)
        for thing in ODD:
            with self.assertRaises(BadText):
                settled(thing)

    def test_programs_that_are_not_checked(self):
        with self.assertRaises(NotChecked) as context:
            settled(write_text(UNCHECKED, bare(UNCHECKED)))
        self.assertEqual(context.exception.what, ("unset", "f", 0))


class ComparedTest(unittest.TestCase):
    def leads(self, program, one, other):
        """Both are right and without tokens; the log that is told leads from one to the other."""
        told = compared(write_text(program, one), write_text(program, other))
        self.assertEqual(told[0], "right")
        self.assertEqual(told[1], same_log(program, one, other))
        self.assertEqual(replayed(program, one, told[1]), other)
        self.assertEqual(told[1] == (), one == other)

    def test_right_placings(self):
        for one in (bare(LOOP), MORE, ROUND):
            for other in (bare(LOOP), MORE, ROUND):
                self.leads(LOOP, one, other)
        self.leads(PAIRS, placed(PAIRS), placed(PAIRS))

    def test_equal_texts_and_texts_told_otherwise(self):
        for placing in (MORE, bare(LOOP)):
            text = write_text(LOOP, placing)
            for other in (text, told_otherwise(text), settled(text) if placing != MORE else text):
                self.assertEqual(compared(text, other), ("right", ()))
                self.assertEqual(compared(other, text), ("right", ()))

    def test_tokens(self):
        kept = placing_of(SIZES, {}, {at: 4 for at in range(6)})
        for program, tokens in ((SIZES, kept), (LIST_PROGRAM, reusing(LIST_PROGRAM))):
            for one, other in ((tokens, placed(program)), (placed(program), tokens), (tokens, tokens)):
                self.assertEqual(compared(write_text(program, one), write_text(program, other)), ("right", None))

    def test_placings_that_are_not_right(self):
        texts = {name: write_text(LOOP, placing) for name, placing in
                 (("falls", FALLS), ("leaves", LEAVES), ("right", MORE))}
        falls, leaves = judge(LOOP, FALLS)[1:], judge(LOOP, LEAVES)[1:]
        self.assertEqual(falls, ("f", (1,), ("use", 0)))
        for one, other, expected in (("falls", "right", ("broken", 0, falls)), ("right", "falls", ("broken", 1, falls)),
                                     ("falls", "leaves", ("broken", 0, falls)), ("leaves", "falls", ("broken", 0, leaves)),
                                     ("falls", "falls", ("broken", 0, falls)), ("right", "leaves", ("broken", 1, leaves))):
            told = compared(texts[one], texts[other])
            self.assertEqual(told, expected)
            self.assertIs(type(told[1]), int)

    def test_broken_ahead_of_tokens(self):
        kept = placing_of(SIZES, {}, {at: 4 for at in range(6)})
        wrong = placing_of(SIZES, {}, {0: 4})
        fault = judge(SIZES, wrong)[1:]
        self.assertEqual(compared(write_text(SIZES, kept), write_text(SIZES, wrong)), ("broken", 1, fault))
        self.assertEqual(compared(write_text(SIZES, wrong), write_text(SIZES, kept)), ("broken", 0, fault))

    def test_unlike_programs(self):
        text = write_text(LOOP, MORE)
        for program in (TWO, LIST_PROGRAM, (LOOP[0], LOOP[1] * 1 + (("g",) + LOOP[1][0][1:],)),
                        (LOOP[0] + (("Other", (("Other", ()),)),), LOOP[1])):
            for placing in (placed(program), bare(program)):
                for one, other in ((text, write_text(program, placing)), (write_text(program, placing), text)):
                    with self.assertRaises(Unlike):
                        compared(one, other)
        # Unlike ahead of what is broken.
        with self.assertRaises(Unlike):
            compared(write_text(LOOP, FALLS), write_text(TWO, bare(TWO)))

    def test_errors_of_the_first_text_then_of_the_second(self):
        good, wrong = write_text(LOOP, MORE), WRONG_TEXT
        unchecked = write_text(UNCHECKED, bare(UNCHECKED))
        other_unchecked = unchecked.replace("give r0", "give r1").replace("fun f", "fun g")
        place = wrong.index(",")
        for one, other, error, field in (
                (wrong, good, BadText, place), (good, wrong, BadText, place), (wrong, unchecked, BadText, place),
                (None, wrong, BadText, 0), (wrong, None, BadText, place), (good, None, BadText, 0),
                (unchecked, wrong, NotChecked, ("unset", "f", 0)), (unchecked, good, NotChecked, ("unset", "f", 0)),
                (good, unchecked, NotChecked, ("unset", "f", 0)), (unchecked, other_unchecked, NotChecked, ("unset", "f", 0)),
                (other_unchecked, unchecked, NotChecked, ("unset", "g", 0)), (unchecked, None, NotChecked, ("unset", "f", 0))):
            with self.assertRaises(error) as context:
                compared(one, other)
            self.assertEqual(context.exception.place if error is BadText else context.exception.what, field)
        for thing in ODD:
            for one, other in ((thing, good), (good, thing)):
                with self.assertRaises(BadText):
                    compared(one, other)

    def test_too_great_where_same_log_is(self):
        program = line(20, 2)
        told = placed(program)
        one = with_deeds(with_deeds(told, 0, ("before", 3), hold(1) * 60), 0, ("edge", 3, 0), drop(1) * 60)
        other = with_deeds(with_deeds(told, 0, ("before", 1), hold(0) * 60), 0, ("before", 3), drop(0) * 60)
        with self.assertRaises(TooGreat):
            same_log(program, one, other)
        with self.assertRaises(TooGreat):
            compared(write_text(program, one), write_text(program, other))
        self.assertEqual(compared(write_text(program, one), write_text(program, one)), ("right", ()))


if __name__ == "__main__":
    unittest.main()
