"""[18] used_anew, [19] in_place."""

import unittest

from justfreed.checks import check
from justfreed.errors import BadName, BadPlacing, BadProgram, BadWay, NotChecked, NotRight
from justfreed.judging import judge
from justfreed.placing import placed
from justfreed.rooms import in_place, reusing, used_anew
from tests.placings import bare, drop, hold, placing_of, with_deeds, with_token
from tests.samples import GIVE, LIST_KINDS, LIST_PROGRAM, LOOP, ODD, PAIRS, SIZES, chain, program_of

LIST = ("List",)
NIL = (("make", 0, "Nil", (), 1), ("give", 0))
SAME = (("give", 0),)


def called(name, args=(0,)):
    """Rows that call a function and give what it gives."""
    return (("call", 0, name, args, 1), ("give", 0))


def functions(**rows):
    """A program of functions from a list to a list."""
    return (LIST_KINDS, tuple((name, LIST, "List", part) for name, part in rows.items()))


class UsedAnewTest(unittest.TestCase):
    def used(self, program, placing, way, many, name="f"):
        result = used_anew(program, placing, name, way)
        self.assertIs(type(result), int)
        self.assertEqual(result, many)

    def test_makes_passed_and_come_to(self):
        program = chain(2, 2)
        placing = reusing(program)
        for many, used in enumerate((0, 0, 0, 1, 2)):
            self.used(program, placing, (0,) * many, used)

    def test_makes_without_a_token(self):
        program = chain(2, 2)
        self.used(program, placed(program), (0,) * 4, 0)
        self.used(program, with_token(reusing(program), 0, 3, None), (0,) * 4, 1)
        self.used(program, with_token(reusing(program), 0, 2, None), (0,) * 4, 1)

    def test_token_0(self):
        self.used(SIZES, placing_of(SIZES, {}, {0: 0, 3: 0}), (2, 0), 1)
        self.used(SIZES, placing_of(SIZES, {}, {0: 0, 3: 0}), (2,), 0)
        self.used(SIZES, placing_of(SIZES, {}, {0: 0, 3: 0}), (1, 0), 0)

    def test_matches_do_not_count(self):
        program = chain(3, 0)
        self.used(program, placing_of(program, {}, {0: 0, 1: 1, 2: 2}), (0, 0, 0), 0)

    def test_whether_or_not_the_way_falls(self):
        program = chain(0, 3)
        placing = placing_of(program, {("entry",): drop(0, 0)}, {0: 5, 1: 5, 2: 5})
        self.assertEqual(judge(program, placing)[0], "wrong")
        for many in range(4):
            self.used(program, placing, (0,) * many, many)

    def test_rows_that_are_passed_again(self):
        program = program_of(("make", 0, "Cons", (1, 0), 1), ("less", 1, 1, 0, 2), ("give", 0), params=("List", "number"),
                             result="List")
        placing = placing_of(program, {}, {0: 3})
        for many in (0, 1, 2, 1999):
            self.used(program, placing, (0, 0) * many, many)
            self.used(program, placing, (0, 0) * many + (0,), many + 1)
            self.used(program, placing, (0, 0) * many + (0, 1), many + 1)

    def test_each_function(self):
        placing = reusing(LIST_PROGRAM)
        self.used(LIST_PROGRAM, placing, (1,), 0, "rev")
        self.used(LIST_PROGRAM, placing, (1, 0), 1, "rev")
        self.used(LIST_PROGRAM, placing, (1, 0, 0), 1, "rev")
        self.used(LIST_PROGRAM, placing, (1, 0), 0, "sum")

    def test_wrong_arguments(self):
        for program in ODD + (GIVE[1],):
            with self.assertRaises(BadProgram):
                used_anew(program, bare(GIVE), "f", ())
        with self.assertRaises(NotChecked):
            used_anew(program_of(("give", 0)), bare(GIVE), "f", ())
        for placing in ODD + (bare(PAIRS), bare(GIVE) * 2, list(bare(GIVE))):
            with self.assertRaises(BadPlacing):
                used_anew(GIVE, placing, "f", ())
        for name in ODD + ("g", "F", 0, ("f",)):
            with self.assertRaises(BadName):
                used_anew(GIVE, bare(GIVE), name, ())
        for way in ODD + ((0,), (-1,), [0], "", 0):
            with self.assertRaises(BadWay):
                used_anew(GIVE, bare(GIVE), "f", way)
        with self.assertRaises(BadWay):
            used_anew(LOOP, bare(LOOP), "f", (0, 0) * 2000 + (0,))
        self.used(LOOP, bare(LOOP), (0, 0) * 2000, 0)
        self.assertEqual(used_anew(way=(), name="f", placing=bare(GIVE), program=GIVE), 0)


class InPlaceTest(unittest.TestCase):
    def judged(self, program, names, placing=None):
        """Expects the names, with the placing or the told one."""
        self.assertIsNone(check(program))
        result = in_place(program, placed(program) if placing is None else placing)
        self.assertIs(type(result), tuple)
        self.assertEqual(result, names)

    def test_nothing_made_and_nothing_called(self):
        self.judged(GIVE, ("f",))
        self.judged(functions(f=SAME, a=SAME, e=SAME), ("a", "e", "f"))

    def test_names_ascending(self):
        self.judged(functions(f=SAME, a=NIL, zZ=SAME, z1=SAME, za=SAME, b=SAME), ("b", "f", "z1", "zZ", "za"))

    def test_holds(self):
        program = program_of(("less", 1, 1, 1, 2), ("give", 0), ("give", 0), params=("List", "number"), result="List")
        self.judged(program, ("f",))
        for spots in ({("entry",): hold(0), ("before", 0): drop(0)}, {("edge", 0, 1): hold(0), ("before", 2): drop(0)},
                      {("before", 0): hold(0), ("edge", 0, 0): drop(0), ("edge", 0, 1): drop(0)},
                      {("before", 1): drop(0), ("entry",): hold(0), ("edge", 0, 1): drop(0)}):
            self.judged(program, (), placing_of(program, spots))

    def test_holds_on_the_last_edge(self):
        placing = placing_of(LOOP, {("edge", 1, 0): hold(0) + drop(0)})
        self.judged(LOOP, (), placing)

    def test_drops_and_frees_are_let(self):
        program = functions(f=(("match", 0, (((), 1), ((1, 2), 2))), ("make", 3, "Nil", (), 3), ("give", 2), ("give", 3)))
        self.assertIn(("free", 0, 2), reusing(program)[0][1][0][2][1])
        self.judged(program, ("f",), reusing(program))
        program = program_of(("give", 0), params=("List", "List"), result="List")
        self.assertEqual(placed(program)[0][0], drop(1))
        self.judged(program, ("f",))

    def test_makes_without_a_token(self):
        program = chain(2, 2)
        self.judged(program, (), placed(program))
        self.judged(program, ("f",), reusing(program))
        self.judged(chain(2, 3), (), reusing(chain(2, 3)))
        self.judged(chain(3, 2), ("f",), reusing(chain(3, 2)))

    def test_makers_without_fields(self):
        self.judged(functions(f=NIL), ())
        program = program_of(("match", 0, (((), 1), ((2, 3), 3))), ("make", 1, "Nil", (), 2), ("give", 1), ("give", 3),
                             params=LIST, result="List")
        self.judged(program, ())
        self.judged(program, ("f",), reusing(program))

    def test_calls(self):
        self.judged(functions(f=called("g"), g=SAME), ("f", "g"))
        self.judged(functions(f=called("g"), g=NIL), ())
        self.judged(functions(f=called("g"), g=called("h"), h=called("i"), i=NIL, j=SAME, k=called("j")), ("j", "k"))
        self.judged(functions(i=NIL, h=called("i"), g=called("h"), f=called("g")), ())
        self.judged(functions(f=called("g"), g=called("h"), h=called("i"), i=SAME), ("f", "g", "h", "i"))

    def test_functions_that_call_one_another(self):
        self.judged(functions(f=called("f")), ("f",))
        self.judged(functions(f=called("g"), g=called("f")), ("f", "g"))
        self.judged(functions(f=called("g"), g=called("h"), h=called("f")), ("f", "g", "h"))
        loop = (("call", 0, "g", (0,), 1), ("call", 0, "h", (0,), 2), ("give", 0))
        self.judged(functions(f=loop, g=called("f"), h=NIL), ())
        self.judged(functions(f=loop, g=called("f"), h=SAME), ("f", "g", "h"))
        self.judged(functions(f=loop, g=called("g"), h=NIL), ("g",))

    def test_a_call_that_is_not_the_first_one(self):
        rows = (("call", 0, "g", (0,), 1), ("call", 0, "h", (0,), 2), ("give", 0))
        self.judged(functions(f=rows, g=SAME, h=NIL), ("g",))
        self.judged(functions(f=rows, h=SAME, g=NIL), ("h",))

    def test_a_hold_in_what_is_called(self):
        program = functions(f=called("g"), g=SAME, h=SAME)
        placing = with_deeds(with_deeds(bare(program), 1, ("entry",), hold(0)), 1, ("before", 0), drop(0))
        self.judged(program, ("h",), placing)

    def test_samples(self):
        self.judged(LIST_PROGRAM, ("count", "same", "sum", "sumloop"))
        self.judged(LIST_PROGRAM, ("count", "rev", "same", "sum", "sumloop"), reusing(LIST_PROGRAM))
        self.judged(PAIRS, ())
        self.judged(SIZES, ("f",), placing_of(SIZES, {}, {at: 2 for at in range(6)}))

    def test_not_right(self):
        for program, placing in ((GIVE, placing_of(GIVE, {("entry",): drop(0)})), (PAIRS, placing_of(PAIRS, {}, {0: 0})),
                                 (LIST_PROGRAM, with_deeds(bare(LIST_PROGRAM), 4, ("before", 0), hold(7)))):
            word, *way = judge(program, placing)
            self.assertEqual(word, "wrong")
            with self.assertRaises(NotRight) as context:
                in_place(program, placing)
            self.assertEqual(context.exception.way, tuple(way))

    def test_wrong_arguments(self):
        for program in ODD + (GIVE[1],):
            with self.assertRaises(BadProgram):
                in_place(program, bare(GIVE))
        with self.assertRaises(NotChecked):
            in_place(program_of(("give", 0)), bare(GIVE))
        for placing in ODD + (bare(PAIRS), bare(GIVE) * 2, list(bare(GIVE))):
            with self.assertRaises(BadPlacing):
                in_place(GIVE, placing)
        self.assertEqual(in_place(placing=bare(GIVE), program=GIVE), ("f",))


if __name__ == "__main__":
    unittest.main()
