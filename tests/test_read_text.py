"""[25]: read_text, and where texts go wrong."""

import unittest

from justfreed.errors import BadText
from justfreed.placing import placed
from justfreed.rooms import reusing
from justfreed.texts import read_text, write_text
from tests.placings import bare, drop, free, hold, placing_of
from tests.samples import LIST_PROGRAM, MANY_KINDS, ODD, PAIRS, SIZES, program_of

KIND = "kind List { Nil ( ) Cons ( number , List ) }"
# One row of each sort, deeds at each sort of spot, tokens.
ALL_PROGRAM = program_of(
    ("number", 3, -17, 1), ("add", 3, 1, 2, 2), ("sub", 3, 1, 2, 3), ("less", 1, 2, 4, 5), ("make", 3, "Cons", (1, 2), 59),
    ("match", 1, (((), 6), ((2, 3), 7))), ("call", 3, "g", (1,), 8), ("give", 1), params=("List", "number"), result="List",
    others=(("g", (), "number", (("give", 0),)),))
ALL_PLACING = placing_of(ALL_PROGRAM, {
    ("entry",): hold(0) + drop(0), ("before", 0): free(0, 0), ("edge", 0, 0): free(15, 4), ("edge", 3, 0): drop(1),
    ("edge", 3, 1): hold(2), ("before", 4): hold(1, 2), ("edge", 5, 1): drop(3), ("before", 7): drop(31)}, {4: 1, 5: 15})
ALL_TEXT = (
    KIND + " fun f ( List , number ) List { entry { hold r0 drop r0 } ; { free t0 : 0 } r3 = -17 -> { free t15 : 4 } 1 ; "
    "r3 = r1 + r2 -> 2 ; r3 = r1 - r2 -> 3 ; r1 < r2 -> { drop r1 } 4 , -> { hold r2 } 5 ; "
    "{ hold r1 hold r2 } r3 = Cons ( r1 , r2 ) in t1 -> 59 ; case r1 into t15 ( ) -> 6 , ( r2 , r3 ) -> { drop r3 } 7 ; "
    "r3 = g ( r1 ) -> 8 ; { drop r31 } give r1 ; } fun g ( ) number { give r0 ; }")


def row_text(row):
    return KIND + " fun f ( ) number { " + row + " }"


class ReadTextTest(unittest.TestCase):
    def reads(self, text, program, placing):
        self.assertEqual(read_text(text), (program, placing))

    def row(self, text, row, **others):
        """The text of one row is read as this row."""
        program = program_of(row)
        self.reads(row_text(text), program, placing_of(program, **others))

    def bad(self, text, place):
        with self.assertRaises(BadText) as context:
            read_text(text)
        self.assertEqual(context.exception.place, place, text)
        self.assertIs(type(context.exception.place), int)

    def bad_at(self, text):
        """The text is wrong at the word behind the sign @, which is not of it."""
        place = text.index("@")
        self.bad(text[:place] + text[place + 1:], place)

    def bad_row(self, text):
        self.bad_at(row_text(text))

    def bad_at_end(self, text):
        self.bad(text, len(text))


class FormsTest(ReadTextTest):
    def test_what_write_text_writes(self):
        self.assertEqual(write_text(ALL_PROGRAM, ALL_PLACING), ALL_TEXT)
        self.reads(ALL_TEXT, ALL_PROGRAM, ALL_PLACING)
        for program in (LIST_PROGRAM, PAIRS, SIZES, program_of(("give", 31), kinds=MANY_KINDS)):
            for placing in (bare(program), placed(program), reusing(program)) if program[0] != MANY_KINDS else (bare(program),):
                self.reads(write_text(program, placing), program, placing)

    def test_other_blanks_and_line_feeds(self):
        for blank in ("  ", "\n", " \n ", "\n\n\n", "          "):
            self.reads(ALL_TEXT.replace(" ", blank), ALL_PROGRAM, ALL_PLACING)
            self.reads(blank + ALL_TEXT + blank, ALL_PROGRAM, ALL_PLACING)

    def test_none_where_none_is_needed(self):
        tight = ALL_TEXT
        for sign in "(){},;=+<:":
            tight = tight.replace(" " + sign, sign).replace(sign + " ", sign)
        tight = tight.replace(" ->", "->").replace("-> ", "->").replace(" - ", "-")
        self.assertLess(len(tight), len(ALL_TEXT) * 0.75)
        self.reads(tight, ALL_PROGRAM, ALL_PLACING)
        self.row("r1=5->{hold r1}7;", ("number", 1, 5, 7), spots={("edge", 0, 0): hold(1)})
        self.row("r1=r2-r3->7;", ("sub", 1, 2, 3, 7))
        self.row("r1=-5->7;", ("number", 1, -5, 7))
        self.row("{free t1:2}case r1 into t2()->3,(r4)->5;", ("match", 1, (((), 3), ((4,), 5))), tokens={0: 2},
                 spots={("before", 0): free(1, 2)})
        self.row("r1=M(r2)in t3->4;", ("make", 1, "M", (2,), 4), tokens={0: 3})

    def test_blanks_within_words(self):
        self.bad_row("@r 1 = 5 -> 7 ;")
        self.bad_row("r1 = 1 @0 -> 7 ;")
        self.bad_row("r1 = 5 @- > 7 ;")
        self.bad_row("r1 = @- 5 -> 7 ;")
        self.bad_row("r1 = @-\n5 -> 7 ;")

    def test_no_blank_where_one_is_needed(self):
        self.bad_row("@giver1 ;")
        self.bad_row("{ hold @r1drop r2 } give r1 ;")
        self.bad_row("case @r1into t0 ( ) -> 7 ;")
        self.bad_at("@kindList { Nil ( ) } fun f ( ) number { give r0 ; }")
        self.bad_at("kind List { Nil ( ) } @funf ( ) number { give r0 ; }")
        self.bad_row("r1 = M ( r2 ) @int3 -> 7 ;")

    def test_noughts_ahead(self):
        self.row("r1 = 0000 -> 00 ;", ("number", 1, 0, 0))
        self.row("r1 = 007 -> 0059 ;", ("number", 1, 7, 59))
        self.row("r1 = -007 -> 7 ;", ("number", 1, -7, 7))
        self.row("r1 = -0 -> 7 ;", ("number", 1, 0, 7))
        self.row("r1 = -000 -> 7 ;", ("number", 1, 0, 7))
        self.row("{ free t1 : 004 } give r1 ;", ("give", 1), spots={("before", 0): free(1, 4)})
        self.row("r1 < r2 -> 000 , -> 0001 ;", ("less", 1, 2, 0, 1))
        self.row("r1 = 0001000000000000 -> 7 ;", ("number", 1, 10 ** 12, 7))
        for text in ("@r01 = 5 -> 7 ;", "r1 = @r00 + r1 -> 7 ;", "give @r00 ;", "{ hold @r031 } give r1 ;", "{ free @t00 : 2 } give r1 ;",
                     "case r1 into @t01 ( ) -> 7 ;", "r1 = M ( ) in @t015 -> 7 ;", "case r1 ( @r02 ) -> 7 ;"):
            self.bad_row(text)

    def test_very_many_noughts_and_figures(self):
        for many in (20, 5000, 300000):
            self.row(f"r1 = {'0' * many}5 -> {'0' * many}7 ;", ("number", 1, 5, 7))
            self.row(f"r1 = -{'0' * many}5 -> {'0' * many} ;", ("number", 1, -5, 0))
            self.row("{ free t1 : " + "0" * many + "2 } give r1 ;", ("give", 1), spots={("before", 0): free(1, 2)})
            self.bad_row(f"r1 = @{'5' * many} -> 7 ;")
            self.bad_row(f"r1 = @-{'0' * many}{'5' * many} -> 7 ;")
            self.bad_row(f"r1 = 5 -> @{'1' * many} ;")
            self.bad_row(f"give @r{'1' * many} ;")
            self.bad_row(f"give @r{'0' * many} ;")
            self.bad_row("{ free t1 : @" + "3" * many + " } give r1 ;")
            self.bad_row(f"r1 = @a{'1' * many} ( ) -> 7 ;")

    def test_empty_deeds(self):
        self.row("{ } give r1 ;", ("give", 1))
        self.row("entry { } ; give r1 ;", ("give", 1))
        self.row("entry { } ; { } give r1 ;", ("give", 1))
        self.row("{} r1 = 5 -> {} 7 ;", ("number", 1, 5, 7))
        self.row("r1 < r2 -> { } 1 , -> { } 2 ;", ("less", 1, 2, 1, 2))
        self.row("case r1 ( ) -> { } 1 , ( ) -> {\n} 2 ;", ("match", 1, (((), 1), ((), 2))))
        self.bad_row("{ } @{ } give r1 ;")
        self.bad_row("{ } @; give r1 ;")
        self.bad_row("r1 = 5 -> { } @{ } 7 ;")

    def test_all_names_that_fit(self):
        text = "kind A { B ( ) C9 ( A , A ) R ( ) T ( ) R1 ( ) } fun rx ( ) number { give r1 ; }"
        self.assertEqual(read_text(text)[0], ((("A", (("B", ()), ("C9", ("A", "A")), ("R", ()), ("T", ()), ("R1", ()))),),
                                              (("rx", (), "number", (("give", 1),)),)))
        self.row("r1 = r1x ( ) -> 7 ;", ("call", 1, "r1x", (), 7))
        self.row("r1 = t1t ( ) -> 7 ;", ("call", 1, "t1t", (), 7))
        self.row("r1 = kinds ( ) -> 7 ;", ("call", 1, "kinds", (), 7))
        self.row("r1 = Kind ( ) -> 7 ;", ("make", 1, "Kind", (), 7))
        self.row("r1 = abcdefghij ( ) -> 7 ;", ("call", 1, "abcdefghij", (), 7))
        self.row("r1 = Abcdefghij ( ) -> 7 ;", ("make", 1, "Abcdefghij", (), 7))

    def test_programs_by_their_form_alone(self):
        text = "kind A { A ( ) } fun f ( No ) Nor { r1 = None ( r31 ) -> 59 ; r2 = f ( ) -> 0 ; } fun f ( ) A { give r9 ; }"
        program = ((("A", (("A", ()),)),), (("f", ("No",), "Nor", (("make", 1, "None", (31,), 59), ("call", 2, "f", (), 0))),
                                            ("f", (), "A", (("give", 9),))))
        self.reads(text, program, bare(program))


class WrongWordsTest(ReadTextTest):
    def test_no_str(self):
        for thing in ODD:
            if type(thing) is not str:
                self.bad(thing, 0)
        self.bad(ALL_TEXT.encode(), 0)
        self.bad([ALL_TEXT], 0)

    def test_empty_texts(self):
        for text in ("", " ", "\n", "  \n \n"):
            self.bad_at_end(text)

    def test_texts_that_end_too_early(self):
        words = ALL_TEXT.split(" ")
        first = ALL_TEXT[:ALL_TEXT.index(" fun g")]
        for many in range(len(words)):
            text = " ".join(words[:many])
            if text == first:
                # The first function is whole there.
                self.assertEqual(len(read_text(text)[0][1]), 1)
                continue
            self.bad_at_end(text)
            self.bad_at_end(text + " \n ")

    def test_words_behind_the_end(self):
        for word in ("}", "kind", ";", "fun2", "entry", "x", "5", "r1"):
            self.bad_at(ALL_TEXT + " @" + word)
        self.bad_at_end(ALL_TEXT + " fun")

    def test_signs_that_are_no_words(self):
        for sign in "!\"#$%&'*./>?@[\\]^_`|~":
            for text in (sign + ALL_TEXT, sign, " " + sign):
                self.bad(text, text.index(sign))
            at = ALL_TEXT.index("give")
            for text in (ALL_TEXT[:at] + sign + ALL_TEXT[at:], ALL_TEXT[:at] + sign + " " + ALL_TEXT[at:]):
                self.bad(text, at)
            self.bad(ALL_TEXT[:at + 4] + sign + ALL_TEXT[at + 4:], at + 4)
            self.bad(ALL_TEXT + sign, len(ALL_TEXT))

    def test_what_must_stand(self):
        self.bad_at("@fun f ( ) number { give r0 ; }")
        self.bad_at("kind A { @} fun f ( ) number { give r0 ; }")
        self.bad_at_end("kind A { A ( ) }")
        self.bad_at("kind A { A ( ) } @}")
        self.bad_at("kind A { A ( ) } fun f ( ) number { @}")
        self.bad_at("kind A { A ( ) } fun f ( ) number { entry { } ; @}")
        self.bad_row("case r0 @;")
        self.bad_row("case r0 into t0 @;")
        self.bad_row("r1 < r2 -> 5 @;")
        self.bad_row("r1 < r2 -> 5 , -> 5 @, -> 5 ;")
        self.bad_row("r1 < r2 -> 5 , @5 ;")
        self.bad_row("r1 = 5 @;")
        self.bad_row("r1 = 5 -> @;")
        self.bad_row("r1 = 5 -> 7 @, -> 7 ;")
        self.bad_row("case r0 ( ) -> 5 , @;")
        self.bad_row("case r0 ( ) -> 5 @( ) -> 5 ;")
        self.bad_row("give r0 @}")
        self.bad_row("give r0 ; @;")

    def test_kinds_and_heads(self):
        for text in ("kind @list { A ( ) }", "kind @5 { A ( ) }", "kind A @( )", "kind A { @a ( ) }", "kind A { A @}", "kind A { A ( @a ) }",
                     "kind A { A ( A @A ) }", "kind A { A ( A , @) }", "kind A { A ( , ) }".replace(",", "@,"), "kind A { A ( ) @, B ( ) }",
                     "kind A { A ( ) @; }", "kind @number { A ( ) }", "kind A { @number ( ) }", "kind A { A ( @r1 ) }",
                     "kind A { A ( ) } @kinds", "kind A { A ( ) } @a", "kind @", "kind A { A ( @5 ) }"):
            self.bad_at(text + ("" if text.endswith("@") else " "))
        for text in ("fun @F ( ) number", "fun @r1 ( ) number", "fun @number ( ) number", "fun @entry ( ) number", "fun f @number",
                     "fun f ( @f ) number", "fun f ( ) @f {", "fun f ( ) @{", "fun f ( A , @) A", "fun f ( A @A ) A", "fun f ( ) number @give",
                     "fun f ( ) number { @fun", "fun f ( ) number { give r0 ; @kind A { A ( ) } }", "fun f ( ) number { give r0 ; } @kind"):
            self.bad_at("kind A { A ( ) } " + text + " ")

    def test_the_entry(self):
        self.bad_row("entry @; give r1 ;")
        self.bad_row("entry { } @give r1 ;")
        self.bad_row("entry { } ; @entry { } ; give r1 ;")
        self.bad_row("give r1 ; @entry { } ; give r1 ;")
        self.bad_row("{ } @entry { } ; give r1 ;")
        self.bad_row("entry @hold r1 ; give r1 ;")

    def test_deeds(self):
        for deeds in ("{ @r1 }", "{ @give r1 }", "{ hold @1 }", "{ hold r1 @, drop r1 }", "{ hold r1 @; }", "{ hold @t1 }", "{ hold @}",
                      "{ drop @R1 }", "{ free @r1 : 2 }", "{ free t1 @2 }", "{ free t1 : @r2 }", "{ free t1 : @- }", "{ free t1 : @}",
                      "{ free t1 @= 2 }", "{ @{ } }", "{ hold r1 @hold1 r2 }", "{ @free1 t1 : 2 }", "{ hold r1 @r2 }", "{ @Hold r1 }"):
            self.bad_row(deeds + " give r1 ;")
            self.bad_row("entry " + deeds + " ; give r1 ;")
            self.bad_row("r1 = 5 -> " + deeds + " 7 ;")
            self.bad_row("r1 < r2 -> 7 , -> " + deeds + " 7 ;")
            self.bad_row("case r1 ( ) -> 7 , ( ) -> " + deeds + " 7 ;")

    def test_rows(self):
        for row in ("@5 = r1 -> 7 ;", "@Give r1 ;", "@give1 r1 ;", "@M ( ) -> 7 ;", "@f ( ) -> 7 ;", "@t1 = 5 -> 7 ;", "r1 @-> 7 ;", "r1 @; ",
                    "r1 @+ r2 -> 7 ;", "r1 @: 5 -> 7 ;", "r1 = @; ", "r1 = @( ) -> 7 ;", "r1 = @= 5 -> 7 ;", "r1 = @t1 -> 7 ;",
                    "r1 = r2 @-> 7 ;", "r1 = r2 @( ) -> 7 ;", "r1 = r2 @< r3 -> 7 ;", "r1 = r2 + @5 -> 7 ;", "r1 = r2 + @- r3 -> 7 ;",
                    "r1 = r2 + r3 @+ r4 -> 7 ;", "r1 = 5 @+ r2 -> 7 ;", "r1 = @+ r2 -> 7 ;", "r1 = M @-> 7 ;", "r1 = M ( r1 @r2 ) -> 7 ;",
                    "r1 = M ( r1 , @) -> 7 ;", "r1 = M ( @5 ) -> 7 ;", "r1 = M ( @M ) -> 7 ;", "r1 = M ( ) @into t1 -> 7 ;",
                    "r1 = M ( ) in @r1 -> 7 ;", "r1 = M ( ) in @-> 7 ;", "r1 = M ( ) in t1 @in t2 -> 7 ;", "r1 = f ( ) @in t1 -> 7 ;",
                    "r1 = f @; ", "r1 = @case ( ) -> 7 ;", "r1 = @give ( ) -> 7 ;", "r1 = @number ( ) -> 7 ;", "r1 = @in ( ) -> 7 ;",
                    "r1 = @r ( ) -> 7 ;", "r1 = @t ( ) -> 7 ;", "r1 = @t77 ( ) -> 7 ;", "r1 = @r77 ( ) -> 7 ;", "r1 < @5 -> 7 , -> 7 ;",
                    "r1 < @r32 -> 7 , -> 7 ;", "r1 @- r2 -> 7 ;", "case @5 ( ) -> 7 ;", "case @( ) -> 7 ;", "case r1 @in t1 ( ) -> 7 ;",
                    "case r1 into @r1 ( ) -> 7 ;", "case r1 @-> 7 ;", "case r1 ( @M ) -> 7 ;", "case r1 ( ) @7 ;", "case r1 ( ) -> 7 @into t1 ;",
                    "case r1 @{ } ( ) -> 7 ;", "give @5 ;", "give @; ", "give r1 @-> 7 ;", "give @r ;", "r1 = 5 -> @r1 ;", "r1 = 5 -> @-7 ;",
                    "r1 = 5 -> @- 7 ;", "r1 = 5 -> 7 @7 ;", "r1 = 5 -> 7 @{ } ;", "r1 = 5 { } -> 7 ;".replace("{", "@{", 1), "r1 = 5 @7 ;"):
            self.bad_row(row)

    def test_bounds(self):
        for row in ("give @r32 ;", "give @r100 ;", "@r32 = 5 -> 7 ;", "r1 = @r32 + r1 -> 7 ;", "r1 = r2 - @r32 -> 7 ;", "r1 = M ( @r32 ) -> 7 ;",
                    "case r1 ( r31 , @r32 ) -> 7 ;", "case r1 into @t16 ( ) -> 7 ;", "r1 = M ( ) in @t16 -> 7 ;", "{ free @t16 : 4 } give r1 ;",
                    "{ free t15 : @5 } give r1 ;", "{ hold @r32 } give r1 ;", "r1 = 5 -> @60 ;", "r1 = 5 -> @100 ;", "r1 = @1000000000001 -> 7 ;",
                    "r1 = @-1000000000001 -> 7 ;", "r1 = @2000000000000 -> 7 ;", "r1 = @a2345678901 ( ) -> 7 ;", "r1 = @A2345678901 ( ) -> 7 ;"):
            self.bad_row(row)
        self.row("r1 = 1000000000000 -> 59 ;", ("number", 1, 10 ** 12, 59))
        self.row("r1 = -1000000000000 -> 59 ;", ("number", 1, -10 ** 12, 59))
        self.bad_at("kind @A2345678901 { A ( ) }")
        self.bad_at("kind A { @A2345678901 ( ) }")
        self.bad_at("kind A { A ( @A2345678901 ) }")
        self.bad_at("kind A { A ( ) } fun @a2345678901 ( ) A { }")

    def test_minus(self):
        # Behind = it belongs to figures right behind it; else it stands for itself.
        self.row("r1 = -5 -> 7 ;", ("number", 1, -5, 7))
        self.row("r1 =-5 -> 7 ;", ("number", 1, -5, 7))
        self.row("r1 =\n\n -5->7 ;", ("number", 1, -5, 7))
        self.row("r1 = r2 -r3 -> 7 ;", ("sub", 1, 2, 3, 7))
        self.row("r1 = r2- r3 -> 7 ;", ("sub", 1, 2, 3, 7))
        for row in ("r1 = @- 5 -> 7 ;", "r1 = @-5a -> 7 ;", "r1 = @-r2 -> 7 ;", "r1 = @-a ( ) -> 7 ;", "r1 = r2 -@5 -> 7 ;", "r1 = r2 @-> 7 ;",
                    "r1 = @--5 -> 7 ;", "r1 = @-> 7 ;", "r1 = 5 @--> 7 ;", "r1 = r2 -@-> 7 ;", "r1 @-5 -> 7 ;", "r1 = 5 -> @-7 ;",
                    "{ free t1 : @-2 } give r1 ;", "r1 = r2 - @-5 -> 7 ;", "r1 = r2 + @-5 -> 7 ;", "r1 < @-5 -> 7 , -> 7 ;", "@-5 ;",
                    "r1 = @-"):
            self.bad_row(row)
        text = KIND + " fun f ( ) number { r1 = -"
        self.bad(text, len(text) - 1)
        self.bad_at_end(KIND + " fun f ( ) number { r1 = -5")
        self.bad_at_end(KIND + " fun f ( ) number { r1 = r2 -")

    def test_words_as_names(self):
        for word in ("case", "drop", "entry", "free", "fun", "give", "hold", "in", "into", "kind", "number", "r", "t", "r5", "t5", "r500", "t00"):
            self.bad_at(KIND + f" fun @{word} ( ) number {{ give r0 ; }}")
            if word != "r5":
                self.bad_row(f"r1 = @{word} ( ) -> 7 ;")

    def test_the_first_wrong_word_is_told(self):
        self.bad_row("give @5 ; give 6 ;")
        self.bad_row("@give5 r77 ;")
        self.bad_at("@5" + ALL_TEXT)


class WrongFormsTest(ReadTextTest):
    """All words fit, but what is read is no program, or no placing of it."""

    def is_none(self, text):
        self.bad_at_end(text)
        self.bad_at_end(text + "\n\n ")

    def test_names_that_are_there_twice(self):
        self.is_none("kind A { A ( ) } kind A { B ( ) } fun f ( ) number { give r0 ; }")
        self.is_none("kind A { A ( ) } kind B { A ( ) } fun f ( ) number { give r0 ; }")
        self.is_none("kind A { A ( ) A ( ) } fun f ( ) number { give r0 ; }")

    def test_fields_of_no_kind(self):
        self.is_none("kind A { A ( B ) } fun f ( ) number { give r0 ; }")

    def test_how_many(self):
        def kinds(many):
            return " ".join(f"kind A{at} {{ A{at} ( ) }}" for at in range(many)) + " fun f ( ) number { give r0 ; }"

        def makers(many):
            return "kind A { " + " ".join(f"A{at} ( )" for at in range(many)) + " } fun f ( ) number { give r0 ; }"

        def fields(many):
            return "kind A { A ( " + " , ".join(["A"] * many) + " ) } fun f ( ) number { give r0 ; }"

        def functions(many):
            return KIND + " fun f ( ) number { give r0 ; }" * many

        def params(many):
            return KIND + " fun f ( " + " , ".join(["List"] * many) + " ) number { give r0 ; }"

        def rows(many):
            return row_text("give r0 ; " * many)

        def branches(many):
            return row_text("case r0 " + " , ".join(["( ) -> 7"] * many) + " ;")

        def setting(many):
            return row_text("case r0 ( " + " , ".join(["r5"] * many) + " ) -> 7 ;")

        def args(many):
            return row_text("r1 = M ( " + " , ".join(["r5"] * many) + " ) -> 7 ;")

        def call_args(many):
            return row_text("r1 = m ( " + " , ".join(["r5"] * many) + " ) -> 7 ;")

        def entry(many):
            return row_text("entry { " + "hold r1 " * many + "} ; give r1 ;")

        def before(many):
            return row_text("{ " + "hold r1 " * many + "} give r1 ;")

        def edge(many):
            return row_text("r1 = 5 -> { " + "free t1 : 2 " * many + "} 7 ;")

        for text, most in ((kinds, 6), (makers, 6), (fields, 4), (functions, 12), (params, 8), (rows, 60), (branches, 6), (setting, 4),
                           (args, 4), (call_args, 8), (entry, 60), (before, 60), (edge, 60)):
            read_text(text(most))
            self.is_none(text(most + 1))
            self.is_none(text(most + 500))
            # What is wrong behind is told nevertheless.
            self.bad(text(most + 1)[:-1] + ")", len(text(most + 1)) - 1)


if __name__ == "__main__":
    unittest.main()
