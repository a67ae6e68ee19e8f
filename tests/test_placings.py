"""[10]: what has the form of a placing."""

import unittest

from justfreed.errors import BadPlacing, BadProgram, NotChecked
from justfreed.judging import is_placing, is_table, is_wrong, judge
from justfreed.placing import dearer, deeds_on, held_more, placed
from justfreed.rooms import in_place, reusing, used_anew
from tests.placings import bare, drop, free, hold, placing_of, spots_of, with_deeds, with_token
from tests.samples import LIST_PROGRAM, MANY_KINDS, ODD, OwnList, Posing, part_at, paths, program_of, replaced

# A row of each sort, and in the second function one of few.
PROGRAM = program_of(
    ("number", 2, 0, 1),
    ("add", 2, 2, 2, 2),
    ("sub", 2, 2, 2, 3),
    ("less", 2, 2, 4, 4),
    ("call", 3, "g", (), 5),
    ("make", 3, "One", (2,), 6),
    ("match", 0, (((), 7), ((4, 2, 6), 7), ((2,), 7))),
    ("give", 2),
    params=("Tree",), kinds=MANY_KINDS, others=(("g", (), "number", (("number", 0, 0, 1), ("give", 0))),))
MANY_NEXTS = (1, 1, 1, 2, 1, 1, 3, 0)
FULL = hold(0) * 60


class PlacingTest(unittest.TestCase):
    def fits(self, thing, program=PROGRAM):
        self.assertIs(is_placing(program, thing), True)

    def fails(self, thing, program=PROGRAM):
        self.assertIs(is_placing(program, thing), False)

    def test_without_deeds(self):
        self.fits(bare(PROGRAM))
        self.fits(bare(LIST_PROGRAM), LIST_PROGRAM)
        self.assertEqual([len(edges) for _, _, edges in bare(PROGRAM)[0][1]], list(MANY_NEXTS))

    def test_deeds_at_each_spot(self):
        for index, spot in spots_of(bare(PROGRAM)):
            for deeds in (hold(0), drop(31), free(15, 4), hold(0, 1) + drop(2) + free(0, 0) + hold(0), FULL,
                          free(3, 2) * 60):
                self.fits(with_deeds(bare(PROGRAM), index, spot, deeds))

    def test_sixty_one_deeds(self):
        for index, spot in spots_of(bare(PROGRAM)):
            for deeds in (FULL + hold(0), FULL + free(0, 0), FULL * 2):
                self.fails(with_deeds(bare(PROGRAM), index, spot, deeds))

    def test_all_spots_with_sixty_deeds(self):
        placing = bare(PROGRAM)
        for index, spot in spots_of(placing):
            placing = with_deeds(placing, index, spot, FULL)
        self.fits(placing)

    def test_registers(self):
        for word in ("hold", "drop"):
            for r in (0, 1, 30, 31):
                self.fits(placing_of(PROGRAM, {("before", 0): ((word, r),)}))
            for r in (-1, 32, 60, 10 ** 30, True, False, None, "0", (0,), [0]):
                self.fails(placing_of(PROGRAM, {("before", 0): ((word, r),)}))

    def test_frees(self):
        for token in (0, 1, 14, 15):
            for size in range(5):
                self.fits(placing_of(PROGRAM, {("entry",): free(token, size)}))
        for token in (-1, 16, 31, 10 ** 30, True, False, None, "0", (0,)):
            self.fails(placing_of(PROGRAM, {("entry",): free(token, 2)}))
        for size in (-1, 5, 6, 10 ** 30, True, False, None, "0", (0,)):
            self.fails(placing_of(PROGRAM, {("entry",): free(2, size)}))

    def test_forms_of_deeds(self):
        for deed in (("hold",), ("hold", 0, 0), ("drop",), ("drop", 0, 0), ("free", 0), ("free", 0, 0, 0), ("free",), (),
                     ("Hold", 0), ("keep", 0), ("use", 0), ("", 0), (0, "hold"), (0, 0), ["hold", 0], "hold", ("hold", (0,)),
                     (("hold",), 0), (b"hold", 0), (None, 0), ("free", 0, 2.0), ("hold\n", 0), ("token", 0), ("number", 0),
                     ("give", 0), ("make", 0, "One", (2,), 6)):
            for index, spot in spots_of(bare(PROGRAM)):
                self.fails(with_deeds(bare(PROGRAM), index, spot, (deed,)))
                self.fails(with_deeds(bare(PROGRAM), index, spot, hold(0) + (deed,)))

    def test_deeds_are_tuples(self):
        for index, spot in spots_of(bare(PROGRAM)):
            for deeds in ([], [("hold", 0)], None, "", "hold", ("hold", 0), OwnList(), {}, 0, (((("hold", 0),),),)):
                self.fails(with_deeds(bare(PROGRAM), index, spot, deeds))

    def test_tokens(self):
        for at, row in enumerate(PROGRAM[1][0][3]):
            for token in (0, 1, 14, 15):
                self.assertIs(is_placing(PROGRAM, with_token(bare(PROGRAM), 0, at, token)), row[0] in ("make", "match"))
            for token in (-1, 16, 10 ** 30, True, False, "0", "", (), (0,), [0], ("free", 0, 0)):
                self.fails(with_token(bare(PROGRAM), 0, at, token))
            self.fits(with_token(bare(PROGRAM), 0, at, None))

    def test_too_few_or_too_many_edges(self):
        for at, many in enumerate(MANY_NEXTS):
            for other in range(8):
                rows = bare(PROGRAM)[0][1]
                placing = (((), rows[:at] + (((), None, ((),) * other),) + rows[at + 1:]), bare(PROGRAM)[1])
                self.assertIs(is_placing(PROGRAM, placing), other == many)

    def test_too_few_or_too_many_rows_and_functions(self):
        (entry, rows), other = bare(PROGRAM)
        give = ((), None, ())
        for wrong in ((entry, rows[:-1]), (entry, rows + (give,)), (entry, rows[1:]), (entry, ()), (entry,), (rows, entry),
                      (entry, rows, ()), (), rows, (entry, rows[::-1]), (entry, rows[:5]), None):
            self.fails((wrong, other))
        for wrong in ((), ((entry, rows),), (other, (entry, rows)), bare(PROGRAM) + (other,), (other, other),
                      ((entry, rows), ((entry, rows), other))):
            self.fails(wrong)
        self.fails(bare(LIST_PROGRAM))
        self.fails(bare(LIST_PROGRAM)[:2], LIST_PROGRAM)

    def test_odd_objects_at_each_place(self):
        placing = placing_of(PROGRAM, {("entry",): hold(0), ("before", 6): drop(2) + free(1, 3), ("edge", 6, 1): hold(4)},
                             {5: 1, 6: 2})
        self.fits(placing)
        for path in paths(placing):
            old = part_at(placing, path)
            for thing in ODD + ([], [0], list(old) if type(old) is tuple else [old], (old,)):
                if thing is None and old in (None, 1, 2) and len(path) == 4 and path[3] == 1:
                    continue
                if old is None and type(thing) is int and PROGRAM[1][path[0]][3][path[2]][0] in ("make", "match"):
                    continue
                self.fails(replaced(placing, path, thing))

    def test_any_object(self):
        for thing in ODD + (bare(PROGRAM)[0], list(bare(PROGRAM)), PROGRAM, 0, "placing", Posing(tuple)):
            self.fails(thing)
        self.assertIs(is_placing(thing=bare(PROGRAM), program=PROGRAM), True)

    def test_told_placings(self):
        for program in (PROGRAM, LIST_PROGRAM):
            self.fits(placed(program), program)
            self.fits(reusing(program), program)

    def test_wrong_programs(self):
        for thing in (bare(PROGRAM), None, Posing(tuple)):
            for program in ODD:
                with self.assertRaises(BadProgram):
                    is_placing(program, thing)
            with self.assertRaises(NotChecked):
                is_placing(program_of(("give", 0)), thing)


class BadPlacingTest(unittest.TestCase):
    CALLS = (
        lambda placing: judge(PROGRAM, placing),
        lambda placing: is_table(PROGRAM, placing, ()),
        lambda placing: is_wrong(PROGRAM, placing, ()),
        lambda placing: held_more(PROGRAM, placing),
        lambda placing: deeds_on(PROGRAM, placing, "f", ()),
        lambda placing: dearer(PROGRAM, placing),
        lambda placing: used_anew(PROGRAM, placing, "f", ()),
        lambda placing: in_place(PROGRAM, placing),
    )

    def test_by_each_function(self):
        wrong = (
            placing_of(PROGRAM, {("entry",): FULL + hold(0)}), placing_of(PROGRAM, {("edge", 3, 1): hold(32)}),
            placing_of(PROGRAM, {}, {0: 1}), placing_of(PROGRAM, {}, {5: 16}), placing_of(PROGRAM, {}, {5: True}),
            placing_of(PROGRAM, {("before", 7): [("hold", 0)]}), bare(PROGRAM)[:1], bare(PROGRAM) * 2, list(bare(PROGRAM)),
            bare(LIST_PROGRAM))
        for call in self.CALLS:
            for placing in ODD + wrong:
                with self.assertRaises(BadPlacing):
                    call(placing)


if __name__ == "__main__":
    unittest.main()
