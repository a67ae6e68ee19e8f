"""The interface, and [2]: where things stand, how they are called, what they keep and return."""

import ast
import importlib
import inspect
import os
import subprocess
import sys
import unittest

from justfreed.checks import check, checked, registers
from justfreed.errors import BadText, BadWay, CellError, NotLet, NotRight
from justfreed.judging import is_placing, is_table, is_wrong, judge
from justfreed.machine import drive, look
from justfreed.placing import dearer, deeds_on, held_more, placed
from justfreed.programs import is_kinds, is_program, is_tree
from justfreed.rooms import in_place, reusing, used_anew
from justfreed.running import run
from justfreed.steps import replayed, same_log, stepped
from justfreed.texts import read_text, write_text
from justfreed.ways import comes_to, first_way, needs, use_ahead
from justfreed.whole import compared, settled
from tests.placings import bare, drop, hold, placing_of
from tests.samples import LIST_KINDS, LIST_PROGRAM, LOOP, ODD, PAIRS, SIZES, TWO, cons, program_of

ROOT = os.path.dirname(os.path.dirname(os.path.abspath(__file__)))
INTERFACE = {
    "justfreed.programs": {"is_kinds": ["thing"], "is_tree": ["kinds", "kind", "thing"], "is_program": ["thing"]},
    "justfreed.checks": {"check": ["program"], "checked": ["program"], "registers": ["program"]},
    "justfreed.running": {"run": ["program", "name", "args", "most"]},
    "justfreed.ways": {"comes_to": ["program", "name", "way"], "first_way": ["program", "name", "row"],
                       "needs": ["program", "name"], "use_ahead": ["program", "name", "row", "r"]},
    "justfreed.judging": {"is_placing": ["program", "thing"], "is_table": ["program", "placing", "thing"],
                          "is_wrong": ["program", "placing", "thing"], "judge": ["program", "placing"]},
    "justfreed.placing": {"placed": ["program"], "held_more": ["program", "placing"],
                          "deeds_on": ["program", "placing", "name", "way"], "dearer": ["program", "placing"]},
    "justfreed.rooms": {"reusing": ["program"], "used_anew": ["program", "placing", "name", "way"],
                        "in_place": ["program", "placing"]},
    "justfreed.machine": {"drive": ["program", "placing", "name", "args", "most"],
                          "look": ["program", "placing", "name", "args", "rows"]},
    "justfreed.steps": {"stepped": ["program", "placing", "step"], "replayed": ["program", "placing", "log"],
                        "same_log": ["program", "one", "other"]},
    "justfreed.texts": {"write_text": ["program", "placing"], "read_text": ["text"]},
    "justfreed.whole": {"settled": ["text"], "compared": ["text", "other"]},
}
MORE = placing_of(LOOP, {("entry",): hold(0), ("edge", 0, 1): drop(0)})
IDLE = ("spot", "f", ("entry",), hold(0) + drop(0))
RAISE = ("level", "f", 0, (("mid", 0), ("mid", 1), ("start", 0), ("start", 1)), 1)
LOOP_TEXT = write_text(LOOP, bare(LOOP))
LOOP_ARGS = (("Nil",), 0)


class InterfaceTest(unittest.TestCase):
    def test_functions_stand_in_their_files_with_their_parameters(self):
        for module, functions in INTERFACE.items():
            loaded = importlib.import_module(module)
            for name, params in functions.items():
                function = getattr(loaded, name)
                self.assertEqual(function.__module__, module)
                found = inspect.signature(function).parameters
                self.assertEqual(list(found), params)
                for param in found.values():
                    self.assertIs(param.kind, inspect.Parameter.POSITIONAL_OR_KEYWORD)
                    self.assertIs(param.default, inspect.Parameter.empty)

    def test_functions_are_written_in_their_files(self):
        for module, functions in INTERFACE.items():
            with open(os.path.join(ROOT, *module.split(".")) + ".py", encoding="utf-8") as file:
                tree = ast.parse(file.read())
            defined = [node.name for node in tree.body if isinstance(node, ast.FunctionDef)]
            for name in functions:
                self.assertIn(name, defined)

    def test_the_package_can_be_imported_alone(self):
        for module in tuple(INTERFACE) + ("justfreed", "justfreed.errors"):
            done = subprocess.run([sys.executable, "-B", "-W", "error", "-c", f"import {module}"], cwd=ROOT, check=False)
            self.assertEqual(done.returncode, 0, module)


class ResultsTest(unittest.TestCase):
    WRONG = program_of(("give", 0))

    def plain(self, thing):
        if type(thing) is tuple:
            return all(self.plain(part) for part in thing)
        return thing is None or type(thing) in (int, bool, str)

    def exact(self, thing):
        """Whether there are no truths in it, either."""
        if type(thing) is tuple:
            return all(self.exact(part) for part in thing)
        return thing is None or type(thing) in (int, str)

    def test_results_are_plain(self):
        for result in (check(self.WRONG), check(LIST_PROGRAM), checked(LIST_PROGRAM), registers(LIST_PROGRAM),
                       run(LIST_PROGRAM, "sum", (cons([1]),), 5), run(LIST_PROGRAM, "sum", (cons([1]),), 50),
                       run(LIST_PROGRAM, "rev", (cons([1]), cons([2])), 50)):
            self.assertTrue(self.plain(result), result)

    def test_results_of_ways_and_placings_are_plain(self):
        more = placing_of(LOOP, {("entry",): hold(0), ("before", 0): hold(0) + drop(0), ("before", 2): drop(0)})
        tokens = placing_of(SIZES, {}, {at: 4 for at in range(6)})
        for result in (
                comes_to(LOOP, "f", (0, 0)), first_way(LOOP, "f", 2), needs(LOOP, "f"), use_ahead(LOOP, "f", 1, 0),
                use_ahead(LOOP, "f", 1, 5), judge(LOOP, more), judge(TWO, bare(TWO)), judge(SIZES, tokens), placed(PAIRS),
                placed(LOOP), held_more(LOOP, more), deeds_on(LOOP, more, "f", (1,)), dearer(LOOP, more),
                dearer(LOOP, bare(LOOP)), reusing(LIST_PROGRAM), used_anew(SIZES, tokens, "f", (2, 0)),
                in_place(SIZES, tokens), in_place(PAIRS, placed(PAIRS))):
            self.assertTrue(self.exact(result), result)

    def test_results_of_runs_steps_and_texts_are_plain(self):
        tokens = placing_of(SIZES, {}, {at: 4 for at in range(6)})
        args = (cons([1, 2]), cons([3]))
        for result in (
                drive(LIST_PROGRAM, reusing(LIST_PROGRAM), "rev", args, 50), drive(LIST_PROGRAM, placed(LIST_PROGRAM), "rev", args, 3),
                drive(LIST_PROGRAM, placed(LIST_PROGRAM), "sum", args[:1], 50), drive(LOOP, bare(LOOP), "f", LOOP_ARGS, 0),
                drive(LOOP, placing_of(LOOP, {("entry",): hold(9)}), "f", LOOP_ARGS, 5),
                look(LIST_PROGRAM, reusing(LIST_PROGRAM), "rev", args, 4), look(LOOP, bare(LOOP), "f", LOOP_ARGS, 50),
                look(SIZES, tokens, "f", (("S2", 1, 2),), 1), stepped(LOOP, bare(LOOP), IDLE), stepped(LOOP, bare(LOOP), RAISE),
                replayed(LOOP, bare(LOOP), (IDLE, RAISE)), same_log(LOOP, MORE, bare(LOOP)), same_log(LOOP, MORE, MORE),
                write_text(SIZES, tokens), read_text(write_text(SIZES, tokens)), settled(LOOP_TEXT), compared(LOOP_TEXT, LOOP_TEXT),
                compared(LOOP_TEXT, write_text(LOOP, MORE)), compared(LOOP_TEXT, write_text(LOOP, placing_of(LOOP, {("entry",): drop(0)}))),
                compared(*[write_text(SIZES, tokens)] * 2)):
            self.assertTrue(self.exact(result), result)
        self.assertIs(type(write_text(LOOP, MORE)), str)
        self.assertIs(type(settled(LOOP_TEXT)), str)
        self.assertIs(type(read_text(LOOP_TEXT)), tuple)

    def test_judges_return_truths(self):
        for thing in ODD:
            for told in (is_kinds(thing), is_program(thing), is_tree(LIST_KINDS, "List", thing), is_placing(LOOP, thing),
                         is_table(LOOP, bare(LOOP), thing), is_wrong(LOOP, bare(LOOP), thing)):
                self.assertIs(told, False)
        falls = placing_of(LOOP, {("entry",): drop(0)})
        for told in (is_kinds(LIST_KINDS), is_program(LIST_PROGRAM), is_tree(LIST_KINDS, "List", ("Nil",)),
                     is_placing(LOOP, falls), is_table(LOOP, bare(LOOP), judge(LOOP, bare(LOOP))[1]),
                     is_wrong(LOOP, falls, ("f", (1,), ("use", 0)))):
            self.assertIs(told, True)

    def test_fields_of_errors_are_plain(self):
        with self.assertRaises(CellError) as context:
            checked(self.WRONG)
        self.assertIs(type(context.exception.what), tuple)
        self.assertEqual([type(part) for part in context.exception.what], [str, str, int])
        for function in (held_more, dearer, in_place):
            with self.assertRaises(NotRight) as context:
                function(TWO, bare(TWO))
            self.assertIs(type(context.exception.way), tuple)
            self.assertTrue(self.exact(context.exception.way))
        for call in (lambda: same_log(TWO, bare(TWO), placed(TWO)), lambda: same_log(TWO, placed(TWO), bare(TWO))):
            with self.assertRaises(NotRight) as context:
                call()
            self.assertEqual(context.exception.way, judge(TWO, bare(TWO))[1:])
            self.assertTrue(self.exact(context.exception.way))
        for call in (lambda: stepped(LOOP, MORE, None), lambda: replayed(LOOP, MORE, (None,))):
            with self.assertRaises(NotLet) as context:
                call()
            self.assertEqual((type(context.exception.index), context.exception.index), (int, 0))
        for call in (lambda: read_text(None), lambda: settled("?"), lambda: compared("?", LOOP_TEXT)):
            with self.assertRaises(BadText) as context:
                call()
            self.assertEqual((type(context.exception.place), context.exception.place), (int, 0))


class CallsTest(unittest.TestCase):
    def calls(self):
        """Functions of no parameters, each with its result, that are called again and again."""
        args = (cons([3, 1, 2]), cons([5]))
        return (
            (lambda: is_kinds(LIST_KINDS), True),
            (lambda: is_tree(LIST_KINDS, "List", args[0]), True),
            (lambda: is_program(LIST_PROGRAM), True),
            (lambda: check(LIST_PROGRAM), None),
            (lambda: check(program_of(("give", 0))), ("unset", "f", 0)),
            (lambda: registers((LIST_KINDS, LIST_PROGRAM[1][4:])), ((((0, "List"),),),)),
            (lambda: run(LIST_PROGRAM, "rev", args, 100), ("ended", cons([2, 1, 3, 5]))),
            (lambda: run(LIST_PROGRAM, "rev", args, 5), ("on",)),
            (lambda: comes_to(LOOP, "f", (0, 0, 1)), 2),
            (lambda: first_way(LOOP, "f", 1), (0,)),
            (lambda: needs(LOOP, "f"), ((0,), (0,), (0,))),
            (lambda: use_ahead(LOOP, "f", 1, 0), (0, 1)),
            (lambda: is_placing(LOOP, bare(LOOP)), True),
            (lambda: judge(LOOP, bare(LOOP)), ("right", (tuple((row, ((0, 1),), ()) for row in range(3)),))),
            (lambda: judge(LOOP, placing_of(LOOP, {("edge", 1, 0): hold(0)})), ("wrong", "f", (0, 0, 1), ("left", 0))),
            (lambda: is_table(LOOP, bare(LOOP), ()), False),
            (lambda: is_wrong(LOOP, placing_of(LOOP, {("entry",): drop(0)}), ("f", (1,), ("use", 0))), True),
            (lambda: placed(LOOP), bare(LOOP)),
            (lambda: held_more(LOOP, placing_of(LOOP, {("edge", 0, 1): hold(0), ("before", 2): drop(0)})), ((0, 2, 0),)),
            (lambda: deeds_on(LOOP, placing_of(LOOP, {("edge", 0, 1): hold(0)}), "f", (1,)), 1),
            (lambda: dearer(LOOP, placing_of(LOOP, {("edge", 0, 1): hold(0), ("before", 2): drop(0)})), ("f", (1,))),
            (lambda: reusing(LOOP), bare(LOOP)),
            (lambda: used_anew(SIZES, placing_of(SIZES, {}, {3: 4}), "f", (2, 0)), 1),
            (lambda: in_place(LOOP, bare(LOOP)), ("f",)),
            (lambda: drive(LIST_PROGRAM, bare(LIST_PROGRAM), "sum", (cons([1, 2]),), 100), ("ended", 3, (11, 0, 0, 0, 0, 3, 0))),
            (lambda: drive(LOOP, placing_of(LOOP, {("entry",): drop(0, 0)}), "f", LOOP_ARGS, 1),
             ("fault", "gone", (0, 0, 1, 0, 0, 1, 0))),
            (lambda: look(LOOP, bare(LOOP), "f", LOOP_ARGS, 1),
             ((("f", 2, ((0, ("cell", 0)), (1, ("number", 0))), ()),), ((0, 1, "Nil", ()),))),
            (lambda: stepped(LOOP, bare(LOOP), RAISE), MORE),
            (lambda: replayed(LOOP, bare(LOOP), (IDLE, RAISE)), MORE),
            (lambda: replayed(LOOP, bare(LOOP), same_log(LOOP, bare(LOOP), MORE)), MORE),
            (lambda: same_log(LOOP, MORE, MORE), ()),
            (lambda: read_text(LOOP_TEXT), (LOOP, bare(LOOP))),
            (lambda: settled(write_text(LOOP, MORE)), LOOP_TEXT),
            (lambda: compared(LOOP_TEXT, LOOP_TEXT), ("right", ())),
        )

    def test_equal_calls_return_equal_results(self):
        for _ in range(3):
            for call, result in self.calls():
                self.assertEqual(call(), result)
        for call, result in self.calls()[::-1]:
            self.assertEqual(call(), result)

    def test_arguments_may_be_passed_by_name(self):
        self.assertEqual(drive(program=LOOP, placing=bare(LOOP), name="f", args=LOOP_ARGS, most=9)[:2], ("ended", ("Nil",)))
        self.assertIsNone(look(rows=9, args=LOOP_ARGS, name="f", placing=bare(LOOP), program=LOOP))
        self.assertEqual(stepped(step=RAISE, placing=bare(LOOP), program=LOOP), MORE)
        self.assertEqual(replayed(log=(RAISE,), placing=bare(LOOP), program=LOOP), MORE)
        self.assertEqual(same_log(other=MORE, one=MORE, program=LOOP), ())
        self.assertEqual(write_text(placing=bare(LOOP), program=LOOP), LOOP_TEXT)
        self.assertEqual(read_text(text=LOOP_TEXT), (LOOP, bare(LOOP)))
        self.assertEqual(settled(text=LOOP_TEXT), LOOP_TEXT)
        self.assertEqual(compared(other=LOOP_TEXT, text=LOOP_TEXT), ("right", ()))

    def test_it_does_not_hang_on_how_strs_are_hashed(self):
        code = ("from justfreed.checks import check, registers\nfrom justfreed.running import run\n"
                "from justfreed.judging import judge\nfrom justfreed.placing import placed\n"
                "from justfreed.rooms import in_place, reusing\nfrom justfreed.ways import needs\n"
                "from tests.placings import bare\nfrom tests.samples import LIST_PROGRAM, PAIRS, TWO, cons\n"
                "print(check(LIST_PROGRAM), registers(LIST_PROGRAM), run(LIST_PROGRAM, 'sum', (cons([1, 2]),), 99))\n"
                "print(needs(PAIRS, 'f'), placed(PAIRS), judge(PAIRS, placed(PAIRS)), judge(TWO, bare(TWO)))\n"
                "print(reusing(LIST_PROGRAM), in_place(LIST_PROGRAM, placed(LIST_PROGRAM)))\n"
                "from tests.test_same_log import PlainTest, with_level\n"
                "from justfreed.machine import drive, look\nfrom justfreed.steps import same_log\n"
                "from justfreed.texts import write_text\n"
                "print(drive(LIST_PROGRAM, reusing(LIST_PROGRAM), 'rev', (cons([1, 2]), cons([3])), 50))\n"
                "print(look(LIST_PROGRAM, reusing(LIST_PROGRAM), 'rev', (cons([1, 2]), cons([3])), 4))\n"
                "one, other = with_level(PlainTest.TOLD, 0, 0, 3, 2), with_level(PlainTest.TOLD, 1, 1, 4)\n"
                "print(same_log(PlainTest.LINE, one, other), write_text(PlainTest.LINE, one))")
        told = [subprocess.run([sys.executable, "-B", "-c", code], cwd=ROOT, env={**os.environ, "PYTHONHASHSEED": seed},
                               stdout=subprocess.PIPE, check=True).stdout for seed in ("0", "1", "2")]
        self.assertEqual(told[0], told[1])
        self.assertEqual(told[0], told[2])

    def test_arguments_are_not_kept(self):
        # Made anew here: a tuple that is written out is held by the code that it stands in.
        kinds = tuple(list(LIST_KINDS))
        functions = tuple(list(LIST_PROGRAM[1]))
        program = tuple([kinds, functions])
        args = tuple([tuple(list(cons([1, 2, 3])))])
        arg = args[0]
        bad = tuple([kinds, tuple(list(program_of(("give", 0))[1]))])
        before = [sys.getrefcount(thing) for thing in (kinds, functions, program, args, arg, bad)]
        is_kinds(kinds)
        is_tree(kinds, "List", arg)
        is_program(program)
        check(program)
        check(bad)
        checked(program)
        registers(program)
        run(program, "sum", args, 100)
        run(program, "same", args, 100)
        run(program, "sum", args, 3)
        for wanting in (lambda: checked(bad), lambda: run(program, "sum", args, -1), lambda: is_tree(kinds, "Nil", arg)):
            try:
                wanting()
            except CellError:
                pass
        after = [sys.getrefcount(thing) for thing in (kinds, functions, program, args, arg, bad)]
        self.assertEqual(before, after)

    def test_arguments_of_ways_and_placings_are_not_kept(self):
        kinds, functions = LOOP
        program = tuple([kinds, tuple(list(functions))])
        placing = tuple(list(bare(LOOP)))
        wrong = tuple(list(placing_of(LOOP, {("entry",): drop(0)})))
        way = tuple([0, 0, 1])
        table = tuple(list(judge(program, placing)[1]))
        thing = tuple(["f", tuple([1]), tuple(["use", 0])])
        things = (program, program[1], placing, placing[0], wrong, way, table, thing, thing[1])
        before = [sys.getrefcount(kept) for kept in things]
        for call in (
                lambda: comes_to(program, "f", way), lambda: first_way(program, "f", 1), lambda: needs(program, "f"),
                lambda: use_ahead(program, "f", 1, 0), lambda: is_placing(program, placing), lambda: judge(program, placing),
                lambda: judge(program, wrong), lambda: is_table(program, placing, table),
                lambda: is_wrong(program, wrong, thing), lambda: placed(program), lambda: held_more(program, placing),
                lambda: deeds_on(program, wrong, "f", way), lambda: dearer(program, placing), lambda: reusing(program),
                lambda: used_anew(program, wrong, "f", way), lambda: in_place(program, placing)):
            call()
        for call in (lambda: comes_to(program, "f", thing), lambda: in_place(program, wrong), lambda: judge(program, way)):
            try:
                call()
            except CellError:
                pass
        after = [sys.getrefcount(kept) for kept in things]
        self.assertEqual(before, after)

    def test_arguments_of_runs_steps_and_texts_are_not_kept(self):
        kinds, functions = LOOP
        program = tuple([kinds, tuple(list(functions))])
        placing = tuple(list(bare(LOOP)))
        more = tuple([tuple(list(MORE[0]))])
        wrong = tuple(list(placing_of(LOOP, {("entry",): drop(0)})))
        args = tuple([tuple(["Nil"]), 5])
        step = tuple(list(RAISE))
        log = tuple([tuple(list(IDLE)), step])
        text = " " + write_text(LOOP, MORE)
        things = (program, program[1], placing, placing[0], more, more[0], wrong, args, args[0], step, step[3], log, log[1], text)
        before = [sys.getrefcount(kept) for kept in things]
        for call in (
                lambda: drive(program, more, "f", args, 50), lambda: drive(program, placing, "f", args, 1),
                lambda: drive(program, wrong, "f", args, 50), lambda: look(program, more, "f", args, 2),
                lambda: stepped(program, placing, step), lambda: replayed(program, placing, log), lambda: same_log(program, placing, more),
                lambda: write_text(program, more), lambda: read_text(text), lambda: settled(text), lambda: compared(text, text)):
            call()
        for call in (lambda: drive(program, more, "f", placing, 50), lambda: look(program, wrong, "f", args, -1),
                     lambda: stepped(program, wrong, step), lambda: replayed(program, placing, (step, log)),
                     lambda: same_log(program, placing, wrong), lambda: write_text(program, args), lambda: read_text(args),
                     lambda: settled(text + "?"), lambda: compared(text, text + "?")):
            try:
                call()
            except CellError:
                pass
            else:
                self.fail("no error")
        after = [sys.getrefcount(kept) for kept in things]
        self.assertEqual(before, after)

    def test_lists_are_neither_taken_nor_changed_by_runs_steps_and_texts(self):
        things = ([bare(LOOP)], [["hold", 0]], [("Nil",), 0], list(RAISE), [RAISE], {"f": [0]}, ["kind"])
        copies = ([bare(LOOP)], [["hold", 0]], [("Nil",), 0], list(RAISE), [RAISE], {"f": [0]}, ["kind"])
        told = bare(LOOP)
        for thing in things:
            for call in (lambda: drive(thing, told, "f", LOOP_ARGS, 5), lambda: drive(LOOP, thing, "f", LOOP_ARGS, 5),
                         lambda: drive(LOOP, told, thing, LOOP_ARGS, 5), lambda: drive(LOOP, told, "f", thing, 5),
                         lambda: drive(LOOP, told, "f", LOOP_ARGS, thing), lambda: look(LOOP, thing, "f", LOOP_ARGS, 5),
                         lambda: look(LOOP, told, "f", thing, 5), lambda: look(LOOP, told, "f", LOOP_ARGS, thing),
                         lambda: stepped(LOOP, thing, RAISE), lambda: stepped(LOOP, told, thing), lambda: replayed(LOOP, told, thing),
                         lambda: replayed(LOOP, told, (thing,)), lambda: same_log(LOOP, thing, told), lambda: same_log(LOOP, told, thing),
                         lambda: write_text(LOOP, thing), lambda: write_text(thing, told), lambda: read_text(thing),
                         lambda: settled(thing), lambda: compared(LOOP_TEXT, thing), lambda: compared(thing, LOOP_TEXT)):
                with self.assertRaises(CellError):
                    call()
        self.assertEqual(things, copies)

    def test_lists_are_neither_taken_nor_changed(self):
        things = ([bare(LOOP)], [["hold", 0]], [list(bare(LOOP)[0])], [0, 0, 1], {"f": [0]})
        copies = ([bare(LOOP)], [["hold", 0]], [list(bare(LOOP)[0])], [0, 0, 1], {"f": [0]})
        for thing in things:
            for told in (is_placing(LOOP, thing), is_table(LOOP, bare(LOOP), thing), is_wrong(LOOP, bare(LOOP), thing)):
                self.assertIs(told, False)
            for call in (lambda: judge(LOOP, thing), lambda: comes_to(LOOP, "f", thing), lambda: first_way(LOOP, "f", thing),
                         lambda: needs(LOOP, thing), lambda: use_ahead(LOOP, "f", 0, thing), lambda: placed(thing),
                         lambda: held_more(LOOP, thing), lambda: deeds_on(LOOP, bare(LOOP), "f", thing),
                         lambda: dearer(LOOP, thing), lambda: reusing(thing), lambda: in_place(LOOP, thing),
                         lambda: used_anew(LOOP, bare(LOOP), "f", thing)):
                with self.assertRaises(CellError):
                    call()
        self.assertEqual(things, copies)
        with self.assertRaises(BadWay):
            comes_to(LOOP, "f", [0])

    def test_arguments_are_not_changed(self):
        things = ([1, [2, 3]], {"a": [1]}, [LIST_KINDS, LIST_PROGRAM[1]], list(LIST_KINDS), {1, 2})
        copies = ([1, [2, 3]], {"a": [1]}, [LIST_KINDS, LIST_PROGRAM[1]], list(LIST_KINDS), {1, 2})
        for thing in things:
            is_kinds(thing)
            is_program(thing)
            is_tree(LIST_KINDS, "List", thing)
            for call in (lambda: check(thing), lambda: run(LIST_PROGRAM, thing, thing, thing),
                         lambda: run(LIST_PROGRAM, "sum", thing, 5), lambda: is_tree(thing, thing, thing)):
                with self.assertRaises(CellError):
                    call()
        self.assertEqual(things, copies)


if __name__ == "__main__":
    unittest.main()
