"""[8] to [19]: many small programs and placings, against tests/reference_placings.py."""

import random
import unittest
from collections import Counter

from justfreed.checks import check
from justfreed.errors import BadWay, TooGreat
from justfreed.judging import is_placing, is_table, is_wrong, judge
from justfreed.placing import dearer, deeds_on, held_more, placed
from justfreed.rooms import in_place, reusing, used_anew
from justfreed.ways import comes_to, first_way, needs, use_ahead
from tests import reference_placings as reference
from tests.making import Maker
from tests.making_placings import changed
from tests.placings import bare, hold, spots_of, with_deeds
from tests.reference import nexts_of
from tests.samples import CHAIN_KINDS, program_of

FAULTS = ("hold", "drop", "use", "bind", "left", "free", "token")


def programs(seeds, joins=(0, 0.3, 0.7)):
    """Right programs, one for most seeds."""
    for seed in seeds:
        chance = random.Random(seed)
        program = Maker(chance, joins=chance.choice(joins)).program()
        if check(program) is None:
            yield chance, program


def placings(chance, program, many):
    """The told placings, and such as come of them by a few changes."""
    begins = (placed(program), reusing(program))
    yield from begins
    for _ in range(many):
        placing = chance.choice(begins)
        for _ in range(chance.choice((1, 1, 1, 2, 3, 5))):
            placing = changed(chance, program, placing)
        yield placing


def any_way(chance, function, most=12):
    """A way of a function by chance."""
    way, at = (), 0
    for _ in range(chance.randint(0, most)):
        many = len(nexts_of(function.rows[at]))
        if many == 0:
            break
        way += (chance.randrange(many),)
        at = nexts_of(function.rows[at])[way[-1]]
    return way


def ways_up_to(function, most):
    """How long ways may be so that there are not more of them than so many."""
    counts = {0: 1}
    total = 1
    for length in range(12):
        following = Counter()
        for at, many in counts.items():
            for goto in nexts_of(function.rows[at]):
                following[goto] += many
        counts = following
        total += sum(counts.values())
        if total > most:
            return length
    return 12


def looping(chance):
    """Rows that lead on and back again, and holds and drops of one register on all of their ways."""
    many = chance.randint(2, 7)
    rows = [("less", 1, 1, chance.choice((at + 1, at + 1, chance.randrange(many))), chance.choice((at + 1, chance.randrange(many))))
            for at in range(many - 1)]
    program = program_of(*rows, ("give", 0), params=("List", "number"), result="List")
    placing = bare(program)
    for index, spot in spots_of(placing):
        if chance.random() < 0.35:
            deeds = tuple((chance.choice(("hold", "hold", "drop")), 0) for _ in range(chance.randint(1, 3)))
            placing = with_deeds(placing, index, spot, deeds)
    if chance.random() < 0.5:
        placing = with_deeds(placing, 0, ("entry",), hold(0) * chance.randint(1, 12))
    return program, placing


class WaysByChanceTest(unittest.TestCase):
    def test_ways(self):
        told = Counter()
        for chance, program in programs(range(250)):
            for function in reference.functions_of(program):
                first = {}
                for way, at in function.ways(min(7, ways_up_to(function, 400))):
                    self.assertEqual(comes_to(program, function.name, way), at)
                    first.setdefault(at, way)
                    wrong = way + (len(nexts_of(function.rows[at])),)
                    with self.assertRaises(BadWay):
                        comes_to(program, function.name, wrong)
                for at, way in first.items():
                    self.assertEqual(first_way(program, function.name, at), way)
                told[len(first) == len(function.rows)] += 1
        self.assertGreater(told[True], 200, told)

    def test_needs(self):
        told = Counter()
        for chance, program in programs(range(1000, 1300)):
            for function in reference.functions_of(program):
                need = reference.needed(function)
                self.assertEqual(needs(program, function.name), tuple(tuple(sorted(part)) for part in need))
                longest = min(5, ways_up_to(function, 200))
                for _ in range(6):
                    at = chance.randrange(len(function.rows))
                    r = chance.choice(sorted(need[at]) or [chance.randrange(32)]) if chance.random() < 0.7 else chance.randrange(9)
                    indexes = use_ahead(program, function.name, at, r)
                    self.assertIs(indexes is not None, r in need[at])
                    expected = reference.use_ahead(function, at, r, longest)
                    if expected is not None or indexes is not None and len(indexes) <= longest:
                        self.assertEqual(indexes, expected, (program, function.name, at, r))
                        told["used", len(expected) > 1] += 1
                    told[indexes is None] += 1
        self.assertGreater(min(told[True], told[False], told["used", True], told["used", False]), 50, told)


class PlacingsByChanceTest(unittest.TestCase):
    def test_judge(self):
        told = Counter()
        for chance, program in programs(range(2000, 2500)):
            for placing in placings(chance, program, 6):
                self.assertIs(is_placing(program, placing), True)
                result = judge(program, placing)
                self.assertEqual(result, reference.judge(program, placing), (program, placing))
                told[result[0]] += 1
                if result[0] == "right":
                    self.right(program, placing, result[1], told)
                else:
                    told[result[3][0]] += 1
                    told["long"] += len(result[2]) > 3
                    self.assertIs(is_wrong(program, placing, result[1:]), True)
                    self.assertIs(is_table(program, placing, ()), False)
        for word in ("right", "wrong", "long", "held") + FAULTS:
            self.assertGreater(told[word], 20, told)

    def right(self, program, placing, tables, told):
        """What holds of a right placing."""
        self.assertTrue(reference.shows(program, placing, tables))
        self.assertIs(is_table(program, placing, tables), True)
        self.assertIs(is_wrong(program, placing, (program[1][0][0], (), ("use", 0))), False)
        held = held_more(program, placing)
        expected = []
        for index, (function, table) in enumerate(zip(reference.functions_of(program), tables)):
            need = reference.needed(function)
            for row, holds, _ in table:
                # No right placing holds less anywhere.
                self.assertLessEqual(need[row], {r for r, _ in holds})
                expected += [(index, row, r) for r, many in holds if many > (r in need[row])]
        self.assertEqual(held, tuple(expected))
        self.assertEqual(in_place(program, placing), reference.in_place(program, placing))
        told["held"] += held != ()

    def test_judge_round_loops(self):
        told = Counter()
        for seed in range(1500):
            program, placing = looping(random.Random(seed))
            if check(program) is not None:
                continue
            result = judge(program, placing)
            self.assertEqual(result, reference.judge(program, placing), (program, placing))
            told[result[0]] += 1
            if result[0] == "wrong":
                told[result[3][0]] += 1
                told["long"] += len(result[2]) >= len(program[1][0][3])
        self.assertGreater(min(told[word] for word in ("right", "hold", "drop", "use", "left", "long")), 5, told)

    def test_judge_by_all_ways(self):
        told = Counter()
        for chance, program in programs(range(3000, 3160)):
            functions = reference.functions_of(program)
            longest = min(ways_up_to(function, 60) for function in functions)
            for placing in placings(chance, program, 5):
                result = judge(program, placing)
                expected = reference.judge_by_all_ways(program, placing, longest)
                if result[0] == "right" or len(result[2]) > longest:
                    self.assertTrue(expected is None or result[0] == "wrong" and expected[1] != result[1])
                else:
                    self.assertEqual(result, expected, (program, placing))
                told[result[0], expected is None] += 1
        self.assertGreater(min(told["right", True], told["wrong", False]), 100, told)

    def test_ways_of_placings(self):
        told = Counter()
        for chance, program in programs(range(4000, 4300)):
            functions = reference.functions_of(program)
            for placing in placings(chance, program, 4):
                for function, part in zip(functions, placing):
                    way = any_way(chance, function)
                    self.assertEqual(deeds_on(program, placing, function.name, way), reference.deeds_on(function, part, way))
                    used = used_anew(program, placing, function.name, way)
                    self.assertEqual(used, reference.used_anew(function, part, way))
                    told["used"] += used > 0
                    fault = reference.fault_on(function, part, way)
                    told[fault is None] += 1
                    if fault is None:
                        self.assertIs(is_wrong(program, placing, (function.name, way, ("left", 0))), False)
                        continue
                    many, first = fault
                    self.assertIs(is_wrong(program, placing, (function.name, way[:many], first)), True)
                    self.assertIs(is_wrong(program, placing, (function.name, way, first)), many == len(way))
                    self.assertIs(is_wrong(program, placing, (function.name, way[:many], (first[0], first[1] + 1))), False)
                    if many:
                        self.assertIs(is_wrong(program, placing, (function.name, way[:many - 1], first)), False)
        self.assertGreater(min(told[True], told[False], told["used"]), 50, told)

    def test_dearer(self):
        told = Counter()
        for chance, program in programs(range(5000, 5400)):
            functions = reference.functions_of(program)
            names = [function.name for function in functions]
            longest = min(ways_up_to(function, 150) for function in functions)
            for placing in placings(chance, program, 4):
                if judge(program, placing)[0] == "wrong":
                    continue
                result = dearer(program, placing)
                expected = reference.dearer(program, placing, longest)
                if expected is None or result is not None and names.index(result[0]) < names.index(expected[0]):
                    self.assertTrue(result is None or len(result[1]) > longest, (program, placing, result))
                else:
                    self.assertEqual(result, expected, (program, placing))
                told[result is None, expected is None] += 1
                self.no_fewer(functions, placing, placed(program), longest)
        self.assertGreater(min(told[True, True], told[False, False]), 50, told)

    def no_fewer(self, functions, placing, told, longest):
        """No right placing does fewer deeds on any whole way."""
        for function, part, told_part in zip(functions, placing, told):
            for way, at in function.ways(longest):
                if function.rows[at][0] == "give":
                    self.assertGreaterEqual(reference.deeds_on(function, part, way),
                                            reference.deeds_on(function, told_part, way))


class ToldByChanceTest(unittest.TestCase):
    def test_placed(self):
        told = Counter()
        for _, program in programs(range(6000, 6600)):
            placing = placed(program)
            self.assertEqual(placing, reference.placed(program), program)
            self.assertEqual(judge(program, placing)[0], "right")
            self.assertEqual(held_more(program, placing), ())
            self.assertIsNone(dearer(program, placing))
            words = [deed[0] for entry, rows in placing for before, _, edges in rows
                     for deeds in (entry, before, *edges) for deed in deeds]
            for word in set(words):
                told[word] += 1
        self.assertGreater(min(told["hold"], told["drop"]), 100, told)

    def test_reusing(self):
        told = Counter()
        for _, program in programs(range(7000, 8200), joins=(0, 0, 0.2)):
            placing = reusing(program)
            self.assertEqual(placing, reference.reusing(program), program)
            self.assertEqual(judge(program, placing)[0], "right")
            self.assertEqual(held_more(program, placing), ())
            told["plain"] += any(map(reference.is_plain, reference.functions_of(program)))
            told["tokens"] += placing != placed(program)
            told["several"] += any(token not in (None, 0) for _, rows in placing for _, token, _ in rows)
        self.assertGreater(min(told["plain"], told["tokens"]), 100, told)
        self.assertGreater(told["several"], 3, told)

    def test_reusing_by_many_matches_and_makes(self):
        told = Counter()
        for seed in range(400):
            program = unfolding(random.Random(seed))
            self.assertIsNone(check(program))
            try:
                placing = reusing(program)
            except TooGreat:
                with self.assertRaises(reference.SeventeenTokens):
                    reference.reusing(program)
                told["great"] += 1
                continue
            self.assertEqual(placing, reference.reusing(program), program)
            self.assertEqual(judge(program, placing)[0], "right")
            told[max((token or 0) for _, token, _ in placing[0][1])] += 1
            told["free"] += any(deed[0] == "free" for _, _, edges in placing[0][1] for edge in edges for deed in edge)
        self.assertGreater(told["great"], 5, told)
        self.assertGreater(told["free"], 50, told)
        self.assertGreater(told[15], 1, told)

    def test_no_right_placing_uses_more_anew(self):
        told = Counter()
        for chance, program in programs(range(9000, 9800), joins=(0,)):
            best = reusing(program)
            for placing in placings(chance, program, 4):
                if judge(program, placing)[0] == "wrong":
                    continue
                for function in reference.functions_of(program):
                    if not reference.is_plain(function):
                        continue
                    for way, at in function.ways(len(function.rows)):
                        if function.rows[at][0] == "give":
                            used = used_anew(program, placing, function.name, way)
                            most = used_anew(program, best, function.name, way)
                            self.assertLessEqual(used, most)
                            told[used, most] += 1
        self.assertGreater(min(told[1, 1], told[0, 1]), 20, told)


class Unfolding:
    """A plain function with many matches of one kind and makes of it, forking now and then."""

    def __init__(self, chance):
        self.chance = chance
        self.rows = []
        self.matching = chance.choice((0.5, 0.7, 0.9, 0.95))

    def put(self, make):
        """A new row's index; make takes it and gives the row."""
        at = len(self.rows)
        self.rows.append(None)
        self.rows[at] = make(at)
        return at

    def grow(self, held, room):
        """Rows, as many as there is room for, beginning with a cell of V in the register held."""
        chance = self.chance
        if room <= 1:
            return self.put(lambda at: ("give", held))
        if room > 6 and chance.random() < 0.05:
            return self.put(lambda at: ("less", 30, 30, self.grow(held, room // 2), self.grow(held, room - room // 2 - 1)))
        if chance.random() < self.matching and held < 28:
            return self.put(lambda at: ("match", held, (((held + 1,), self.grow(held + 1, room - 1)),)))
        self.matching = chance.choice((self.matching, 0, 0.1, 0.4))
        return self.put(lambda at: ("make", held, "V1", (held,), self.grow(held, room - 1)))


def unfolding(chance):
    maker = Unfolding(chance)
    maker.put(lambda at: ("number", 30, 0, maker.grow(0, 58)))
    return program_of(*maker.rows, params=("V",), result="V", kinds=CHAIN_KINDS)


if __name__ == "__main__":
    unittest.main()
