"""[3], [20] to [22]: many small programs, placings and arguments, against tests/reference_machine.py and what must hold."""

import random
import unittest
from collections import Counter

from justfreed.judging import judge
from justfreed.machine import drive, look
from justfreed.placing import placed
from justfreed.rooms import in_place, reusing
from justfreed.running import run
from tests import reference_machine, reference_placings
from tests.making import args_for, tree
from tests.placings import with_deeds, with_token
from tests.samples import program_of
from tests.test_placings_by_chance import placings, programs

FAULTS = ("unset", "gone", "token")


def calls_of(chance, program):
    """(function's name, arguments) by chance, for each function."""
    return [(name, args_for(chance, program[0], params)) for name, params, _, _ in program[1]]


def holders(program, placing, tables, calls, cells):
    """For each cell how many holders it has: holds by the tables, in each open call, and fields of cells that are there."""
    found = Counter(entry[1] for _, _, _, entries in cells for entry in entries if entry[0] == "cell")
    names = [function[0] for function in program[1]]
    for at, (name, row, registers, _) in enumerate(calls):
        index = names.index(name)
        _, holds, tokens = tables[index][row]
        state = reference_placings.State(holds, tokens)
        if at + 1 < len(calls):
            # A call that waits has done its row's deeds, and given its args away.
            function = reference_placings.Function(program, name)
            assert reference_placings.do_row(function, placing[index], state, row) is None
        has = dict(registers)
        for r, many in state.told()[0]:
            found[has[r][1]] += many
    return dict(found)


def cells_in(machine, given, found):
    """The serials of all cells of a tree, of a machine of the reference."""
    if given[0] == "cell" and given[1] not in found:
        found.add(given[1])
        for entry in machine.cells[given[1]].entries:
            cells_in(machine, entry, found)
    return found


class AgainstTheReferenceTest(unittest.TestCase):
    def test_drive_and_look(self):
        told = Counter()
        for chance, program in programs(range(11000, 11350)):
            for placing in placings(chance, program, 6):
                for name, args in calls_of(chance, program):
                    for most in (chance.randrange(9), 40):
                        result = drive(program, placing, name, args, most)
                        self.assertEqual(result, reference_machine.drive(program, placing, name, args, most),
                                         (program, placing, name, args, most))
                        self.assertEqual(look(program, placing, name, args, most),
                                         reference_machine.look(program, placing, name, args, most))
                        told[result[0]] += 1
                        told[result[1] if result[0] == "fault" else None] += 1
                        told["anew"] += result[2][4] > 0
        for word in ("on", "ended", "anew") + FAULTS:
            self.assertGreater(told[word], 10, told)

    def test_tokens(self):
        # Programs that take cells apart and make others, with tokens anywhere.
        told = Counter()
        for seed in range(1500):
            chance = random.Random(seed)
            program, placing = with_tokens(chance)
            args = (tree(chance, program[0], "A", 3), tree(chance, program[0], "A", 3), 5)
            result = drive(program, placing, "f", args, 60)
            self.assertEqual(result, reference_machine.drive(program, placing, "f", args, 60), (program, placing, args))
            rows = chance.randrange(8)
            self.assertEqual(look(program, placing, "f", args, rows), reference_machine.look(program, placing, "f", args, rows))
            told[result[:2] if result[0] == "fault" else result[0]] += 1
            told["anew"] += result[2][4] > 0
        for word in ("ended", "anew", ("fault", "token"), ("fault", "gone"), ("fault", "unset")):
            self.assertGreater(told[word], 20, told)


def with_tokens(chance):
    """A program over one kind, its rows one behind the other; its placing has tokens, frees, holds and drops."""
    kinds = (("A", (("A0", ()), ("A1", ("A",)), ("A2", ("A", "number")))),)
    rows = []
    trees = [0, 1]
    for at in range(chance.randint(2, 7)):
        if chance.random() < 0.5:
            free_ones = [r for r in range(3, 20) if r not in trees]
            one, other = free_ones[:2]
            # On its first branch the match has no tree to give on, so that branch makes one by the row behind.
            rows.append(("match", chance.choice(trees), (((), len(rows) + 1), ((one,), len(rows) + 1), ((one, 2), len(rows) + 1))))
            rows.append(("make", other, "A0", (), len(rows) + 1))
            trees.append(other)
        else:
            r = chance.choice([0, 1] + list(range(20, 24)))
            maker = chance.choice(("A0", "A1", "A2"))
            args = {"A0": (), "A1": (chance.choice(trees),), "A2": (chance.choice(trees), 2)}[maker]
            rows.append(("make", r, maker, args, len(rows) + 1))
            trees = sorted(set(trees + [r]))
    program = program_of(*rows, ("give", chance.choice(trees)), params=("A", "A", "number"), result="A", kinds=kinds)
    placing = placed(program)
    for at, row in enumerate(program[1][0][3]):
        if row[0] in ("match", "make") and chance.random() < 0.6:
            placing = with_token(placing, 0, at, chance.choice((0, 0, 1)))
        if row[0] != "give" and chance.random() < 0.3:
            which = chance.randrange(3 if row[0] == "match" else 1)
            deed = chance.choice((("free", chance.randrange(2), chance.randrange(3)), ("hold", chance.randrange(6)), ("drop", chance.randrange(3))))
            placing = with_deeds(placing, 0, ("edge", at, which), placing[0][1][at][2][which] + (deed,))
    return program, placing


class RightPlacingsTest(unittest.TestCase):
    def test_no_fault_and_the_plain_runs_result(self):
        told = Counter()
        for chance, program in programs(range(12000, 12400)):
            for placing in placings(chance, program, 5):
                if judge(program, placing)[0] == "wrong":
                    continue
                for name, args in calls_of(chance, program):
                    plain = run(program, name, args, 300)
                    result = drive(program, placing, name, args, 300)
                    self.assertEqual(result[:len(plain)], plain if plain[0] == "ended" else ("on",))
                    told[plain[0]] += 1
                    if plain[0] == "ended":
                        self.assertEqual(run(program, name, args, result[2][0]), plain)
                        self.just_the_result_is_there(program, placing, name, args, result, told)
        self.assertGreater(min(told["ended"], told["on"], told["cells"]), 300, told)

    def just_the_result_is_there(self, program, placing, name, args, result, told):
        machine, _, what = reference_machine.driven(program, placing, name, args, 300)
        self.assertEqual(what, result[1])
        # The outermost call's frame went last; its give's register has the result.
        rows = machine.rows
        before = look(program, placing, name, args, rows - 1)
        give = [function for function in program[1] if function[0] == name][0][3][before[0][0][1]]
        given = dict(before[0][0][2])[give[1]]
        there = {serial for serial, cell in enumerate(machine.cells) if not cell.went}
        self.assertEqual(there, cells_in(machine, given, set()))
        self.assertEqual(result[2][6], len(there))
        told["cells"] += len(there) > 0

    def test_counts_are_the_numbers_of_holders(self):
        told = Counter()
        for chance, program in programs(range(13000, 13250)):
            for placing in placings(chance, program, 4):
                word, *rest = judge(program, placing)
                if word == "wrong":
                    continue
                for name, args in calls_of(chance, program):
                    for rows in range(0, 25, chance.choice((1, 2, 3))):
                        there = look(program, placing, name, args, rows)
                        if there is None:
                            break
                        calls, cells = there
                        counts = {serial: count for serial, count, _, _ in cells}
                        self.assertEqual(counts, holders(program, placing, rest[0], calls, cells), (program, placing, name, args, rows))
                        told[max(counts.values(), default=0) > 1, len(calls) > 1] += 1
                        self.tokens_are_told(program, rest[0], calls)
        self.assertGreater(min(told[False, False], told[True, False], told[False, True], told[True, True]), 50, told)

    def tokens_are_told(self, program, tables, calls):
        """Each token with a room is one of the table's, with the size that it tells."""
        names = [function[0] for function in program[1]]
        for name, row, _, tokens in calls:
            _, _, state = tables[names.index(name)][row]
            self.assertLessEqual(set(tokens), set(state))

    def test_in_place_takes_no_new_room(self):
        told = Counter()
        for chance, program in programs(range(14000, 15200), joins=(0, 0, 0.3)):
            placing = reusing(program)
            for name in in_place(program, placing):
                params = {function[0]: function[1] for function in program[1]}[name]
                for _ in range(3):
                    word, _, counts = drive(program, placing, name, args_for(chance, program[0], params), 200)
                    self.assertNotEqual(word, "fault")
                    self.assertEqual(counts[3], 0)
                    told[counts[4] > 0] += 1
        self.assertGreater(min(told[True], told[False]), 10, told)


if __name__ == "__main__":
    unittest.main()
