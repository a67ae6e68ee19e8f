"""The interface, and [2]: where things stand, how they are called, what they keep and return."""

import ast
import importlib
import inspect
import os
import subprocess
import sys
import unittest

from justfreed.checks import check, checked, registers
from justfreed.errors import BadWay, CellError, NotRight
from justfreed.judging import is_placing, is_table, is_wrong, judge
from justfreed.placing import dearer, deeds_on, held_more, placed
from justfreed.programs import is_kinds, is_program, is_tree
from justfreed.rooms import in_place, reusing, used_anew
from justfreed.running import run
from justfreed.ways import comes_to, first_way, needs, use_ahead
from tests.placings import bare, drop, hold, placing_of
from tests.samples import LIST_KINDS, LIST_PROGRAM, LOOP, ODD, PAIRS, SIZES, TWO, cons, program_of

ROOT = os.path.dirname(os.path.dirname(os.path.abspath(__file__)))
INTERFACE = {
    "justfreed.programs": {"is_kinds": ["thing"], "is_tree": ["kinds", "kind", "thing"], "is_program": ["thing"]},
    "justfreed.checks": {"check": ["program"], "checked": ["program"], "registers": ["program"]},
    "justfreed.running": {"run": ["program", "name", "args", "most"]},
    "justfreed.ways": {"comes_to": ["program", "name", "way"], "first_way": ["program", "name", "row"],
                       "needs": ["program", "name"], "use_ahead": ["program", "name", "row", "r"]},
    "justfreed.judging": {"is_placing": ["program", "thing"], "is_table": ["program", "placing", "thing"],
                          "is_wrong": ["program", "placing", "thing"], "judge": ["program", "placing"]},
    "justfreed.placing": {"placed": ["program"], "held_more": ["program", "placing"],
                          "deeds_on": ["program", "placing", "name", "way"], "dearer": ["program", "placing"]},
    "justfreed.rooms": {"reusing": ["program"], "used_anew": ["program", "placing", "name", "way"],
                        "in_place": ["program", "placing"]},
}


class InterfaceTest(unittest.TestCase):
    def test_functions_stand_in_their_files_with_their_parameters(self):
        for module, functions in INTERFACE.items():
            loaded = importlib.import_module(module)
            for name, params in functions.items():
                function = getattr(loaded, name)
                self.assertEqual(function.__module__, module)
                found = inspect.signature(function).parameters
                self.assertEqual(list(found), params)
                for param in found.values():
                    self.assertIs(param.kind, inspect.Parameter.POSITIONAL_OR_KEYWORD)
                    self.assertIs(param.default, inspect.Parameter.empty)

    def test_functions_are_written_in_their_files(self):
        for module, functions in INTERFACE.items():
            with open(os.path.join(ROOT, *module.split(".")) + ".py", encoding="utf-8") as file:
                tree = ast.parse(file.read())
            defined = [node.name for node in tree.body if isinstance(node, ast.FunctionDef)]
            for name in functions:
                self.assertIn(name, defined)

    def test_the_package_can_be_imported_alone(self):
        for module in tuple(INTERFACE) + ("justfreed", "justfreed.errors"):
            done = subprocess.run([sys.executable, "-B", "-W", "error", "-c", f"import {module}"], cwd=ROOT, check=False)
            self.assertEqual(done.returncode, 0, module)


class ResultsTest(unittest.TestCase):
    WRONG = program_of(("give", 0))

    def plain(self, thing):
        if type(thing) is tuple:
            return all(self.plain(part) for part in thing)
        return thing is None or type(thing) in (int, bool, str)

    def exact(self, thing):
        """Whether there are no truths in it, either."""
        if type(thing) is tuple:
            return all(self.exact(part) for part in thing)
        return thing is None or type(thing) in (int, str)

    def test_results_are_plain(self):
        for result in (check(self.WRONG), check(LIST_PROGRAM), checked(LIST_PROGRAM), registers(LIST_PROGRAM),
                       run(LIST_PROGRAM, "sum", (cons([1]),), 5), run(LIST_PROGRAM, "sum", (cons([1]),), 50),
                       run(LIST_PROGRAM, "rev", (cons([1]), cons([2])), 50)):
            self.assertTrue(self.plain(result), result)

    def test_results_of_ways_and_placings_are_plain(self):
        more = placing_of(LOOP, {("entry",): hold(0), ("before", 0): hold(0) + drop(0), ("before", 2): drop(0)})
        tokens = placing_of(SIZES, {}, {at: 4 for at in range(6)})
        for result in (
                comes_to(LOOP, "f", (0, 0)), first_way(LOOP, "f", 2), needs(LOOP, "f"), use_ahead(LOOP, "f", 1, 0),
                use_ahead(LOOP, "f", 1, 5), judge(LOOP, more), judge(TWO, bare(TWO)), judge(SIZES, tokens), placed(PAIRS),
                placed(LOOP), held_more(LOOP, more), deeds_on(LOOP, more, "f", (1,)), dearer(LOOP, more),
                dearer(LOOP, bare(LOOP)), reusing(LIST_PROGRAM), used_anew(SIZES, tokens, "f", (2, 0)),
                in_place(SIZES, tokens), in_place(PAIRS, placed(PAIRS))):
            self.assertTrue(self.exact(result), result)

    def test_judges_return_truths(self):
        for thing in ODD:
            for told in (is_kinds(thing), is_program(thing), is_tree(LIST_KINDS, "List", thing), is_placing(LOOP, thing),
                         is_table(LOOP, bare(LOOP), thing), is_wrong(LOOP, bare(LOOP), thing)):
                self.assertIs(told, False)
        falls = placing_of(LOOP, {("entry",): drop(0)})
        for told in (is_kinds(LIST_KINDS), is_program(LIST_PROGRAM), is_tree(LIST_KINDS, "List", ("Nil",)),
                     is_placing(LOOP, falls), is_table(LOOP, bare(LOOP), judge(LOOP, bare(LOOP))[1]),
                     is_wrong(LOOP, falls, ("f", (1,), ("use", 0)))):
            self.assertIs(told, True)

    def test_fields_of_errors_are_plain(self):
        with self.assertRaises(CellError) as context:
            checked(self.WRONG)
        self.assertIs(type(context.exception.what), tuple)
        self.assertEqual([type(part) for part in context.exception.what], [str, str, int])
        for function in (held_more, dearer, in_place):
            with self.assertRaises(NotRight) as context:
                function(TWO, bare(TWO))
            self.assertIs(type(context.exception.way), tuple)
            self.assertTrue(self.exact(context.exception.way))


class CallsTest(unittest.TestCase):
    def calls(self):
        """Functions of no parameters, each with its result, that are called again and again."""
        args = (cons([3, 1, 2]), cons([5]))
        return (
            (lambda: is_kinds(LIST_KINDS), True),
            (lambda: is_tree(LIST_KINDS, "List", args[0]), True),
            (lambda: is_program(LIST_PROGRAM), True),
            (lambda: check(LIST_PROGRAM), None),
            (lambda: check(program_of(("give", 0))), ("unset", "f", 0)),
            (lambda: registers((LIST_KINDS, LIST_PROGRAM[1][4:])), ((((0, "List"),),),)),
            (lambda: run(LIST_PROGRAM, "rev", args, 100), ("ended", cons([2, 1, 3, 5]))),
            (lambda: run(LIST_PROGRAM, "rev", args, 5), ("on",)),
            (lambda: comes_to(LOOP, "f", (0, 0, 1)), 2),
            (lambda: first_way(LOOP, "f", 1), (0,)),
            (lambda: needs(LOOP, "f"), ((0,), (0,), (0,))),
            (lambda: use_ahead(LOOP, "f", 1, 0), (0, 1)),
            (lambda: is_placing(LOOP, bare(LOOP)), True),
            (lambda: judge(LOOP, bare(LOOP)), ("right", (tuple((row, ((0, 1),), ()) for row in range(3)),))),
            (lambda: judge(LOOP, placing_of(LOOP, {("edge", 1, 0): hold(0)})), ("wrong", "f", (0, 0, 1), ("left", 0))),
            (lambda: is_table(LOOP, bare(LOOP), ()), False),
            (lambda: is_wrong(LOOP, placing_of(LOOP, {("entry",): drop(0)}), ("f", (1,), ("use", 0))), True),
            (lambda: placed(LOOP), bare(LOOP)),
            (lambda: held_more(LOOP, placing_of(LOOP, {("edge", 0, 1): hold(0), ("before", 2): drop(0)})), ((0, 2, 0),)),
            (lambda: deeds_on(LOOP, placing_of(LOOP, {("edge", 0, 1): hold(0)}), "f", (1,)), 1),
            (lambda: dearer(LOOP, placing_of(LOOP, {("edge", 0, 1): hold(0), ("before", 2): drop(0)})), ("f", (1,))),
            (lambda: reusing(LOOP), bare(LOOP)),
            (lambda: used_anew(SIZES, placing_of(SIZES, {}, {3: 4}), "f", (2, 0)), 1),
            (lambda: in_place(LOOP, bare(LOOP)), ("f",)),
        )

    def test_equal_calls_return_equal_results(self):
        for _ in range(3):
            for call, result in self.calls():
                self.assertEqual(call(), result)
        for call, result in self.calls()[::-1]:
            self.assertEqual(call(), result)

    def test_it_does_not_hang_on_how_strs_are_hashed(self):
        code = ("from justfreed.checks import check, registers\nfrom justfreed.running import run\n"
                "from justfreed.judging import judge\nfrom justfreed.placing import placed\n"
                "from justfreed.rooms import in_place, reusing\nfrom justfreed.ways import needs\n"
                "from tests.placings import bare\nfrom tests.samples import LIST_PROGRAM, PAIRS, TWO, cons\n"
                "print(check(LIST_PROGRAM), registers(LIST_PROGRAM), run(LIST_PROGRAM, 'sum', (cons([1, 2]),), 99))\n"
                "print(needs(PAIRS, 'f'), placed(PAIRS), judge(PAIRS, placed(PAIRS)), judge(TWO, bare(TWO)))\n"
                "print(reusing(LIST_PROGRAM), in_place(LIST_PROGRAM, placed(LIST_PROGRAM)))")
        told = [subprocess.run([sys.executable, "-B", "-c", code], cwd=ROOT, env={**os.environ, "PYTHONHASHSEED": seed},
                               stdout=subprocess.PIPE, check=True).stdout for seed in ("0", "1", "2")]
        self.assertEqual(told[0], told[1])
        self.assertEqual(told[0], told[2])

    def test_arguments_are_not_kept(self):
        # Made anew here: a tuple that is written out is held by the code that it stands in.
        kinds = tuple(list(LIST_KINDS))
        functions = tuple(list(LIST_PROGRAM[1]))
        program = tuple([kinds, functions])
        args = tuple([tuple(list(cons([1, 2, 3])))])
        arg = args[0]
        bad = tuple([kinds, tuple(list(program_of(("give", 0))[1]))])
        before = [sys.getrefcount(thing) for thing in (kinds, functions, program, args, arg, bad)]
        is_kinds(kinds)
        is_tree(kinds, "List", arg)
        is_program(program)
        check(program)
        check(bad)
        checked(program)
        registers(program)
        run(program, "sum", args, 100)
        run(program, "same", args, 100)
        run(program, "sum", args, 3)
        for wanting in (lambda: checked(bad), lambda: run(program, "sum", args, -1), lambda: is_tree(kinds, "Nil", arg)):
            try:
                wanting()
            except CellError:
                pass
        after = [sys.getrefcount(thing) for thing in (kinds, functions, program, args, arg, bad)]
        self.assertEqual(before, after)

    def test_arguments_of_ways_and_placings_are_not_kept(self):
        kinds, functions = LOOP
        program = tuple([kinds, tuple(list(functions))])
        placing = tuple(list(bare(LOOP)))
        wrong = tuple(list(placing_of(LOOP, {("entry",): drop(0)})))
        way = tuple([0, 0, 1])
        table = tuple(list(judge(program, placing)[1]))
        thing = tuple(["f", tuple([1]), tuple(["use", 0])])
        things = (program, program[1], placing, placing[0], wrong, way, table, thing, thing[1])
        before = [sys.getrefcount(kept) for kept in things]
        for call in (
                lambda: comes_to(program, "f", way), lambda: first_way(program, "f", 1), lambda: needs(program, "f"),
                lambda: use_ahead(program, "f", 1, 0), lambda: is_placing(program, placing), lambda: judge(program, placing),
                lambda: judge(program, wrong), lambda: is_table(program, placing, table),
                lambda: is_wrong(program, wrong, thing), lambda: placed(program), lambda: held_more(program, placing),
                lambda: deeds_on(program, wrong, "f", way), lambda: dearer(program, placing), lambda: reusing(program),
                lambda: used_anew(program, wrong, "f", way), lambda: in_place(program, placing)):
            call()
        for call in (lambda: comes_to(program, "f", thing), lambda: in_place(program, wrong), lambda: judge(program, way)):
            try:
                call()
            except CellError:
                pass
        after = [sys.getrefcount(kept) for kept in things]
        self.assertEqual(before, after)

    def test_lists_are_neither_taken_nor_changed(self):
        things = ([bare(LOOP)], [["hold", 0]], [list(bare(LOOP)[0])], [0, 0, 1], {"f": [0]})
        copies = ([bare(LOOP)], [["hold", 0]], [list(bare(LOOP)[0])], [0, 0, 1], {"f": [0]})
        for thing in things:
            for told in (is_placing(LOOP, thing), is_table(LOOP, bare(LOOP), thing), is_wrong(LOOP, bare(LOOP), thing)):
                self.assertIs(told, False)
            for call in (lambda: judge(LOOP, thing), lambda: comes_to(LOOP, "f", thing), lambda: first_way(LOOP, "f", thing),
                         lambda: needs(LOOP, thing), lambda: use_ahead(LOOP, "f", 0, thing), lambda: placed(thing),
                         lambda: held_more(LOOP, thing), lambda: deeds_on(LOOP, bare(LOOP), "f", thing),
                         lambda: dearer(LOOP, thing), lambda: reusing(thing), lambda: in_place(LOOP, thing),
                         lambda: used_anew(LOOP, bare(LOOP), "f", thing)):
                with self.assertRaises(CellError):
                    call()
        self.assertEqual(things, copies)
        with self.assertRaises(BadWay):
            comes_to(LOOP, "f", [0])

    def test_arguments_are_not_changed(self):
        things = ([1, [2, 3]], {"a": [1]}, [LIST_KINDS, LIST_PROGRAM[1]], list(LIST_KINDS), {1, 2})
        copies = ([1, [2, 3]], {"a": [1]}, [LIST_KINDS, LIST_PROGRAM[1]], list(LIST_KINDS), {1, 2})
        for thing in things:
            is_kinds(thing)
            is_program(thing)
            is_tree(LIST_KINDS, "List", thing)
            for call in (lambda: check(thing), lambda: run(LIST_PROGRAM, thing, thing, thing),
                         lambda: run(LIST_PROGRAM, "sum", thing, 5), lambda: is_tree(thing, thing, thing)):
                with self.assertRaises(CellError):
                    call()
        self.assertEqual(things, copies)


if __name__ == "__main__":
    unittest.main()
