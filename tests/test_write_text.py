"""[25]: write_text."""

import unittest

from justfreed.checks import check
from justfreed.errors import BadPlacing, BadProgram
from justfreed.placing import placed
from justfreed.rooms import reusing
from justfreed.texts import read_text, write_text
from tests.placings import bare, drop, free, hold, placing_of
from tests.samples import LIST_PROGRAM, LOOP, MANY_KINDS, ODD, PAIRS, SIZES, program_of

KIND = "kind List { Nil ( ) Cons ( number , List ) }"


class WriteTextTest(unittest.TestCase):
    def rows(self, text, *rows, **others):
        """The text of a function with these rows and without deeds; it need not be right."""
        program = program_of(*rows)
        placing = placing_of(program, **others)
        told = write_text(program, placing)
        self.assertEqual(told, f"{KIND} fun f ( ) number {{ {text} }}")
        self.assertIs(type(told), str)
        self.assertEqual(read_text(told), (program, placing))

    def test_kinds_and_heads(self):
        program = program_of(("give", 0), kinds=MANY_KINDS, params=("Tree", "number", "Wide"), result="Loop",
                             others=(("g", (), "number", (("give", 31),)), ("h", ("number",), "List", (("give", 0),))))
        told = write_text(program, bare(program))
        self.assertEqual(told, " ".join((
            "kind Tree { Leaf ( ) Node ( Tree , number , Tree ) One ( number ) }", "kind Pair { Pair ( Tree , List ) }", KIND,
            "kind Loop { Again ( Loop ) }", "kind Wide { Wide4 ( Wide , number , Tree , number ) Wide0 ( ) }",
            "fun f ( Tree , number , Wide ) Loop { give r0 ; }", "fun g ( ) number { give r31 ; }",
            "fun h ( number ) List { give r0 ; }")))
        self.assertEqual(read_text(told), (program, bare(program)))

    def test_each_sort_of_row(self):
        self.rows("r3 = 17 -> 0 ;", ("number", 3, 17, 0))
        self.rows("r31 = r1 + r2 -> 59 ;", ("add", 31, 1, 2, 59))
        self.rows("r3 = r10 - r20 -> 0 ;", ("sub", 3, 10, 20, 0))
        self.rows("r1 < r2 -> 10 , -> 1 ;", ("less", 1, 2, 10, 1))
        self.rows("r3 = Maker ( r1 , r2 ) -> 7 ;", ("make", 3, "Maker", (1, 2), 7))
        self.rows("r3 = M ( ) -> 7 ;", ("make", 3, "M", (), 7))
        self.rows("r3 = name ( r1 ) -> 7 ;", ("call", 3, "name", (1,), 7))
        self.rows("r3 = name ( ) -> 7 ;", ("call", 3, "name", (), 7))
        self.rows("r3 = name ( r0 , r1 , r2 , r3 , r4 , r5 , r6 , r7 ) -> 7 ;", ("call", 3, "name", tuple(range(8)), 7))
        self.rows("case r1 ( r2 , r3 ) -> 4 ;", ("match", 1, (((2, 3), 4),)))
        self.rows("case r1 ( ) -> 4 , ( r5 ) -> 4 , ( r2 , r2 , r2 , r2 ) -> 0 ;", ("match", 1, (((), 4), ((5,), 4), ((2,) * 4, 0))))
        self.rows("give r1 ;", ("give", 1))
        self.rows("give r1 ; give r2 ; r0 = 0 -> 0 ;", ("give", 1), ("give", 2), ("number", 0, 0, 0))

    def test_numbers(self):
        for number in (0, 1, -1, 10, -10, 10 ** 12, -10 ** 12):
            self.rows(f"r0 = {number} -> 0 ;", ("number", 0, number, 0))

    def test_tokens(self):
        for token in (0, 7, 15):
            self.rows(f"r3 = Maker ( r1 ) in t{token} -> 7 ;", ("make", 3, "Maker", (1,), 7), tokens={0: token})
            self.rows(f"case r1 into t{token} ( ) -> 7 ;", ("match", 1, (((), 7),)), tokens={0: token})

    def test_deeds(self):
        deeds = hold(1) + drop(31) + free(15, 4) + free(0, 0) + drop(1)
        written = "{ hold r1 drop r31 free t15 : 4 free t0 : 0 drop r1 }"
        self.rows(f"entry {written} ; give r1 ;", ("give", 1), spots={("entry",): deeds})
        self.rows(f"{written} give r1 ;", ("give", 1), spots={("before", 0): deeds})
        self.rows(f"r1 = 5 -> {written} 3 ;", ("number", 1, 5, 3), spots={("edge", 0, 0): deeds})
        self.rows("{ hold r9 } r1 = r2 + r3 -> { drop r9 } 3 ;", ("add", 1, 2, 3, 3),
                  spots={("before", 0): hold(9), ("edge", 0, 0): drop(9)})
        self.rows(f"r1 < r2 -> 1 , -> {written} 2 ;", ("less", 1, 2, 1, 2), spots={("edge", 0, 1): deeds})
        self.rows("r1 < r2 -> { hold r1 } 1 , -> { drop r1 } 2 ;", ("less", 1, 2, 1, 2),
                  spots={("edge", 0, 0): hold(1), ("edge", 0, 1): drop(1)})
        self.rows("{ drop r0 } r1 = M ( r2 ) in t3 -> { hold r1 } 4 ;", ("make", 1, "M", (2,), 4), tokens={0: 3},
                  spots={("before", 0): drop(0), ("edge", 0, 0): hold(1)})
        self.rows("{ drop r0 } r1 = m ( r2 ) -> { hold r1 } 4 ;", ("call", 1, "m", (2,), 4),
                  spots={("before", 0): drop(0), ("edge", 0, 0): hold(1)})
        self.rows("{ drop r0 } case r1 into t3 ( ) -> { free t3 : 0 } 1 , ( r2 ) -> 2 , ( r3 ) -> { drop r3 } 3 ;",
                  ("match", 1, (((), 1), ((2,), 2), ((3,), 3))), tokens={0: 3},
                  spots={("before", 0): drop(0), ("edge", 0, 0): free(3, 0), ("edge", 0, 2): drop(3)})
        self.rows("give r1 ; { hold r1 } give r2 ;", ("give", 1), ("give", 2), spots={("before", 1): hold(1)})

    def test_sixty_deeds(self):
        self.rows("entry { " + "hold r1 " * 60 + "} ; give r1 ;", ("give", 1), spots={("entry",): hold(1) * 60})

    def test_a_whole_text(self):
        program = program_of(("match", 0, (((), 2), ((2, 3), 1))), ("make", 4, "Cons", (2, 1), 3), ("give", 1), ("give", 4),
                             params=("List", "List"), result="List", name="first")
        self.assertIsNone(check(program))
        self.assertEqual(write_text(program, placed(program)), KIND + " fun first ( List , List ) List { case r0 ( ) -> 2 , "
                         "( r2 , r3 ) -> { drop r3 } 1 ; r4 = Cons ( r2 , r1 ) -> 3 ; give r1 ; give r4 ; }")
        self.assertEqual(write_text(program, reusing(program)), KIND + " fun first ( List , List ) List { case r0 into t0 ( ) -> "
                         "{ free t0 : 0 } 2 , ( r2 , r3 ) -> { drop r3 } 1 ; r4 = Cons ( r2 , r1 ) in t0 -> 3 ; give r1 ; give r4 ; }")

    def test_just_one_blank_between_two_words(self):
        for program in (LIST_PROGRAM, PAIRS, SIZES, LOOP):
            for placing in (placed(program), reusing(program), bare(program)):
                told = write_text(program, placing)
                self.assertNotIn("  ", told)
                self.assertEqual(told, told.strip())
                self.assertNotIn("\n", told)
                self.assertNotIn("{ }", told)
                for word in told.split(" "):
                    self.assertRegex(word, r"^([(){},;=+<:-]|->|-?[0-9]+|[A-Za-z][A-Za-z0-9]*)$")
                self.assertEqual(read_text(told), (program, placing))

    def test_programs_by_their_form_alone(self):
        # Nothing of them is right but the form.
        program = program_of(("make", 0, "No", (31,) * 4, 59), ("call", 0, "no", (), 59), params=("No", "No"), result="No", name="no",
                             others=(("no", (), "No", (("match", 3, (((3, 3), 7),)),)),))
        self.assertIsNotNone(check(program))
        placing = placing_of(program, {("entry",): free(3, 3)}, {0: 9})
        self.assertEqual(write_text(program, placing), KIND + " fun no ( No , No ) No { entry { free t3 : 3 } ; "
                         "r0 = No ( r31 , r31 , r31 , r31 ) in t9 -> 59 ; r0 = no ( ) -> 59 ; } "
                         "fun no ( ) No { case r3 ( r3 , r3 ) -> 7 ; }")
        self.assertEqual(read_text(write_text(program, placing)), (program, placing))

    def test_what_is_no_program(self):
        for thing in ODD + (program_of(("give", 32)), program_of(("give", 0), name="F"), program_of(), list(LOOP), (LOOP[0], [])):
            with self.assertRaises(BadProgram):
                write_text(thing, bare(LOOP))
            with self.assertRaises(BadProgram):
                write_text(thing, None)

    def test_what_is_no_placing(self):
        for thing in ODD + (bare(SIZES), bare(LOOP) * 2, list(bare(LOOP)), placing_of(LOOP, {("entry",): hold(0) * 61}),
                            placing_of(LOOP, {}, {0: 3}), placing_of(LOOP, {("entry",): hold(32)}), bare(LIST_PROGRAM)):
            with self.assertRaises(BadPlacing):
                write_text(LOOP, thing)
        wrong = program_of(("give", 7), ("number", 0, 0, 5))
        self.assertIsNotNone(check(wrong))
        for thing in ((((), (((), None, ()),)),), (((), (((), None, ()), ((), None, ()))),), (((), (((), None, ()), ((), 3, ((),)))),)):
            with self.assertRaises(BadPlacing):
                write_text(wrong, thing)
        self.assertIn("give r7", write_text(wrong, (((), (((), None, ()), ((), None, ((),)))),)))


if __name__ == "__main__":
    unittest.main()
