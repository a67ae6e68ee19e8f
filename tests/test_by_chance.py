"""[6] and [7]: many small programs, against tests/reference.py."""

import random
import unittest
from collections import Counter

from justfreed.checks import check, registers
from justfreed.programs import is_program, is_tree
from justfreed.running import run
from tests import reference
from tests.making import Maker, args_for, changed, tree

WORDS = ("double", "kind", "next", "name", "many", "idle", "endless", "unset", "unfit", "over")


def programs(seeds, most_changes):
    for seed in seeds:
        chance = random.Random(seed)
        program = Maker(chance).program()
        for _ in range(chance.randint(0, most_changes)):
            program = changed(chance, program)
        yield chance, program


class ByChanceTest(unittest.TestCase):
    def test_check(self):
        told = Counter()
        for _, program in programs(range(6000), 4):
            self.assertIs(is_program(program), True)
            what = reference.check(program)
            self.assertEqual(check(program), what, program)
            told[what and what[0]] += 1
            if what is None:
                self.assertEqual(registers(program), reference.registers(program), program)
        for word in WORDS + (None,):
            self.assertGreater(told[word], 10, told)

    def test_registers_that_are_the_same_on_all_ways(self):
        right = 0
        for _, program in programs(range(6000, 7500), 1):
            if check(program) is None:
                right += 1
                self.assertEqual(registers(program), reference.same_on_all_ways(program), program)
        self.assertGreater(right, 200)

    def test_run(self):
        told = Counter()
        for chance, program in programs(range(8000, 10000), 1):
            if check(program) is not None:
                continue
            for name, params, _, _ in program[1]:
                args = args_for(chance, program[0], params)
                for most in (chance.randint(0, 12), 120):
                    outcome = run(program, name, args, most)
                    self.assertEqual(outcome, reference.run(program, name, args, most), (program, name, args, most))
                    told[outcome[0], type(outcome[-1])] += 1
        self.assertGreater(min(told["ended", int], told["ended", tuple], told["on", str]), 100, told)

    def test_trees(self):
        told = Counter()
        for seed in range(3000):
            chance = random.Random(seed)
            kinds = Maker(chance).kinds
            kind = chance.choice(kinds)[0]
            sayings = list(tree(chance, kinds, kind, 6))[:450]
            if len(sayings) <= 400:
                self.assertIs(is_tree(kinds, kind, tuple(sayings)), True)
            at = chance.randrange(len(sayings))
            other = chance.choice(sayings + [0, "A0", "B0", "A1"])
            sayings[at:at + chance.randint(0, 1)] = [other] * chance.randint(0, 1)
            expected = is_said(reference.Words((kinds, ())), kind, sayings)
            self.assertIs(is_tree(kinds, kind, tuple(sayings)), expected)
            told[expected] += 1
        self.assertGreater(min(told[True], told[False]), 200, told)


def is_said(words, kind, sayings):
    """Whether these are sayings, by reading a tree of them."""
    def behind(word, at):
        if at is None or at >= len(sayings):
            return None
        entry = sayings[at]
        if word == "number":
            return at + 1 if type(entry) is int else None
        if type(entry) is int or words.maker(entry) is None or words.maker(entry)[0] != word:
            return None
        at += 1
        for field in words.maker(entry)[1]:
            at = behind(field, at)
        return at
    return len(sayings) <= 400 and behind(kind, 0) == len(sayings)


if __name__ == "__main__":
    unittest.main()
