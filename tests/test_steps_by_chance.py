"""[23] and [24]: many small programs, placings and steps, against tests/reference_steps.py and what must hold."""

import random
import unittest
from collections import Counter

from justfreed.checks import check
from justfreed.errors import NotLet
from justfreed.judging import judge
from justfreed.placing import placed
from justfreed.steps import replayed, same_log, stepped
from tests import reference_placings, reference_steps
from tests.making_placings import any_deed, changed, raised
from tests.placings import deeds_at, spots_of, with_deeds
from tests.samples import program_of
from tests.test_placings_by_chance import placings, programs


def any_deeds(chance, deeds):
    """Other deeds that come of some."""
    at, r = chance.randint(0, len(deeds)), chance.randrange(8)
    what = chance.randrange(5)
    if what == 0:
        return tuple(chance.sample(deeds, len(deeds)))
    if what == 1:
        return deeds[:at] + chance.choice(((("hold", r), ("drop", r)), (("drop", r), ("hold", r)))) + deeds[at:]
    if what == 2:
        return deeds[:at] + deeds[at + 1:]
    if what == 3:
        return deeds[:at] + (any_deed(chance),) + deeds[at:]
    return (("hold", r), ("drop", r)) * chance.randint(1, 30) + deeds


def any_step(chance, program, placing):
    """A step, right by its form, but for how many deeds there are."""
    index = chance.randrange(len(placing))
    name, _, _, rows = program[1][index]
    if chance.random() < 0.4:
        _, spot = chance.choice([pair for pair in spots_of(placing) if pair[0] == index])
        return ("spot", name, spot, any_deeds(chance, deeds_at(placing, index, spot)))
    need = reference_placings.needed(reference_placings.Function(program, name))
    r = chance.choice(sorted({r for part in need for r in part}) or [0])
    points = [(word, at) for at in range(len(rows)) for word in ("mid", "start")]
    fitting = [(word, at) for word, at in points if r in need[at] and (word, rows[at][0]) != ("mid", "give")]
    if chance.random() < 0.5:
        fitting = [point for point in fitting if chance.random() < 0.8]
    if chance.random() < 0.2:
        fitting = [point for point in points if chance.random() < 0.4]
    return ("level", name, r, tuple(sorted(fitting or points[:1])), chance.choice((1, 1, 1, 2, 3, -1, -1, -2, 30, 58, 60, -60)))


def right_placings(chance, program, many):
    """The told placing and right ones without tokens that come of it, with idle pairs and in other orders."""
    found = [placed(program)]
    for _ in range(many):
        placing = chance.choice(found)
        for _ in range(chance.choice((1, 3, 6))):
            index, spot = chance.choice(spots_of(placing))
            tried = chance.choice((
                lambda: raised(chance, program, placing), lambda: changed(chance, program, placing),
                lambda: with_deeds(placing, index, spot, any_deeds(chance, deeds_at(placing, index, spot))[:60])))()
            if judge(program, tried)[0] == "right" and all(token is None for _, rows in tried for _, token, _ in rows):
                placing = tried
        found.append(placing)
    return found


def going_round(chance):
    """Rows that lead on and back again; of four lists only the first is needed."""
    many = chance.choice((1, 2, 4, 8))
    rows = [("less", 8, 8, at + 2, chance.choice((at + 2, chance.randrange(at + 3)))) for at in range(many)]
    return program_of(("number", 8, 0, 1), *rows, ("give", 0), params=("List",) * 4, result="List")


def holding_any(chance, program, many):
    """A right placing that holds its lists, needed or not, oftener here and there, behind so many tries."""
    placing = placed(program)
    rows = len(program[1][0][3])
    points = [(word, at) for word in ("mid", "start") for at in range(rows) if (word, at) != ("mid", rows - 1)]
    for _ in range(many):
        first, last = sorted(chance.choices(range(rows), k=2))
        among = [point for point in points if first <= point[1] <= last] if chance.random() < 0.5 else points
        among = tuple(point for point in among if chance.random() < 0.95) or (("start", 0),)
        _, spot = chance.choice(spots_of(placing))
        deeds = deeds_at(placing, 0, spot)
        for step in (("level", "f", chance.randrange(4), among, chance.choice((1, 1, 2, 3, -1, -1, -2))),
                     ("spot", "f", spot, any_deeds(chance, deeds)[:60])):
            try:
                placing = stepped(program, placing, step)
            except NotLet:
                pass
    return placing


class StepsByChanceTest(unittest.TestCase):
    def test_steps_and_logs(self):
        told = Counter()
        for chance, program in programs(range(15000, 15150)):
            for begin in placings(chance, program, 3):
                placing, log = begin, []
                for _ in range(7):
                    step = any_step(chance, program, placing)
                    expected = reference_steps.stepped(program, placing, step)
                    result = self.answer(lambda: stepped(program, placing, step))
                    self.assertEqual(result, 0 if expected is None else expected, (program, placing, step))
                    told[step[0], expected is None, judge(program, placing)[0]] += 1
                    if expected is not None or chance.random() < 0.05:
                        log.append(step)
                    placing = expected or placing
                expected = reference_steps.replayed(program, begin, log)
                self.assertEqual(self.answer(lambda: replayed(program, begin, tuple(log))), expected)
                told["index", expected if type(expected) is int else None] += 1
        for word in ("spot", "level"):
            self.assertGreater(min(told[word, True, "right"], told[word, False, "right"], told[word, True, "wrong"]), 50, told)
        self.assertGreater(told["spot", False, "wrong"] + told["level", False, "wrong"], 1, told)
        self.assertGreater(min(told["index", 0], told["index", 1], told["index", None]), 10, told)

    def answer(self, call):
        """What is returned, or the index that NotLet tells."""
        try:
            return call()
        except NotLet as error:
            return error.index

    def test_same_log(self):
        told = Counter()
        for chance, program in programs(range(16000, 16300), joins=(0, 0.3, 0.7, 0.9)):
            found = right_placings(chance, program, 5)
            for _ in range(5):
                one, other = chance.choice(found), chance.choice(found)
                log = same_log(program, one, other)
                self.assertEqual(log == (), one == other)
                placing = one
                for step in log:
                    placing = reference_steps.changed(program, placing, step)
                    self.assertEqual(judge(program, placing)[0], "right")
                self.assertEqual(placing, other, (program, one, other))
                self.assertEqual(replayed(program, one, log), other)
                told[min(len(log), 6)] += 1
                for word, *_ in log:
                    told[word] += 1
        self.assertGreater(min(told[at] for at in (0, 1, 2, 3, 6, "level", "spot")), 20, told)

    def test_same_log_of_lists_that_need_not_be_held(self):
        told = Counter()
        for seed in range(60):
            chance = random.Random(seed)
            program = going_round(chance)
            if check(program) is not None:
                continue
            found = [placed(program)] + [holding_any(chance, program, chance.choice((3, 8, 20))) for _ in range(3)]
            for one in found:
                for other in found:
                    log = same_log(program, one, other)
                    self.assertEqual(replayed(program, one, log), other, (program, one, other))
                    told[min(len(log) // 4, 3)] += 1
        self.assertGreater(min(told[at] for at in range(4)), 20, told)


if __name__ == "__main__":
    unittest.main()
