"""The interface, and [2]: where things stand, how they are called, what they keep and return."""

import ast
import importlib
import inspect
import os
import subprocess
import sys
import unittest

from justfreed.checks import check, checked, registers
from justfreed.errors import CellError
from justfreed.programs import is_kinds, is_program, is_tree
from justfreed.running import run
from tests.samples import LIST_KINDS, LIST_PROGRAM, ODD, cons, program_of

ROOT = os.path.dirname(os.path.dirname(os.path.abspath(__file__)))
INTERFACE = {
    "justfreed.programs": {"is_kinds": ["thing"], "is_tree": ["kinds", "kind", "thing"], "is_program": ["thing"]},
    "justfreed.checks": {"check": ["program"], "checked": ["program"], "registers": ["program"]},
    "justfreed.running": {"run": ["program", "name", "args", "most"]},
}


class InterfaceTest(unittest.TestCase):
    def test_functions_stand_in_their_files_with_their_parameters(self):
        for module, functions in INTERFACE.items():
            loaded = importlib.import_module(module)
            for name, params in functions.items():
                function = getattr(loaded, name)
                self.assertEqual(function.__module__, module)
                found = inspect.signature(function).parameters
                self.assertEqual(list(found), params)
                for param in found.values():
                    self.assertIs(param.kind, inspect.Parameter.POSITIONAL_OR_KEYWORD)
                    self.assertIs(param.default, inspect.Parameter.empty)

    def test_functions_are_written_in_their_files(self):
        for module, functions in INTERFACE.items():
            with open(os.path.join(ROOT, *module.split(".")) + ".py", encoding="utf-8") as file:
                tree = ast.parse(file.read())
            defined = [node.name for node in tree.body if isinstance(node, ast.FunctionDef)]
            for name in functions:
                self.assertIn(name, defined)

    def test_the_package_can_be_imported_alone(self):
        for module in tuple(INTERFACE) + ("justfreed", "justfreed.errors"):
            done = subprocess.run([sys.executable, "-B", "-W", "error", "-c", f"import {module}"], cwd=ROOT, check=False)
            self.assertEqual(done.returncode, 0, module)


class ResultsTest(unittest.TestCase):
    WRONG = program_of(("give", 0))

    def plain(self, thing):
        if type(thing) is tuple:
            return all(self.plain(part) for part in thing)
        return thing is None or type(thing) in (int, bool, str)

    def test_results_are_plain(self):
        for result in (check(self.WRONG), check(LIST_PROGRAM), checked(LIST_PROGRAM), registers(LIST_PROGRAM),
                       run(LIST_PROGRAM, "sum", (cons([1]),), 5), run(LIST_PROGRAM, "sum", (cons([1]),), 50),
                       run(LIST_PROGRAM, "rev", (cons([1]), cons([2])), 50)):
            self.assertTrue(self.plain(result), result)

    def test_judges_return_truths(self):
        for thing in ODD:
            for told in (is_kinds(thing), is_program(thing), is_tree(LIST_KINDS, "List", thing)):
                self.assertIs(told, False)
        for told in (is_kinds(LIST_KINDS), is_program(LIST_PROGRAM), is_tree(LIST_KINDS, "List", ("Nil",))):
            self.assertIs(told, True)

    def test_fields_of_errors_are_plain(self):
        with self.assertRaises(CellError) as context:
            checked(self.WRONG)
        self.assertIs(type(context.exception.what), tuple)
        self.assertEqual([type(part) for part in context.exception.what], [str, str, int])


class CallsTest(unittest.TestCase):
    def calls(self):
        """Functions of no parameters, each with its result, that are called again and again."""
        args = (cons([3, 1, 2]), cons([5]))
        return (
            (lambda: is_kinds(LIST_KINDS), True),
            (lambda: is_tree(LIST_KINDS, "List", args[0]), True),
            (lambda: is_program(LIST_PROGRAM), True),
            (lambda: check(LIST_PROGRAM), None),
            (lambda: check(program_of(("give", 0))), ("unset", "f", 0)),
            (lambda: registers((LIST_KINDS, LIST_PROGRAM[1][4:])), ((((0, "List"),),),)),
            (lambda: run(LIST_PROGRAM, "rev", args, 100), ("ended", cons([2, 1, 3, 5]))),
            (lambda: run(LIST_PROGRAM, "rev", args, 5), ("on",)),
        )

    def test_equal_calls_return_equal_results(self):
        for _ in range(3):
            for call, result in self.calls():
                self.assertEqual(call(), result)
        for call, result in self.calls()[::-1]:
            self.assertEqual(call(), result)

    def test_it_does_not_hang_on_how_strs_are_hashed(self):
        code = ("from justfreed.checks import check, registers\nfrom justfreed.running import run\n"
                "from tests.samples import LIST_PROGRAM, cons\n"
                "print(check(LIST_PROGRAM), registers(LIST_PROGRAM), run(LIST_PROGRAM, 'sum', (cons([1, 2]),), 99))")
        told = [subprocess.run([sys.executable, "-B", "-c", code], cwd=ROOT, env={**os.environ, "PYTHONHASHSEED": seed},
                               stdout=subprocess.PIPE, check=True).stdout for seed in ("0", "1", "2")]
        self.assertEqual(told[0], told[1])
        self.assertEqual(told[0], told[2])

    def test_arguments_are_not_kept(self):
        # Made anew here: a tuple that is written out is held by the code that it stands in.
        kinds = tuple(list(LIST_KINDS))
        functions = tuple(list(LIST_PROGRAM[1]))
        program = tuple([kinds, functions])
        args = tuple([tuple(list(cons([1, 2, 3])))])
        arg = args[0]
        bad = tuple([kinds, tuple(list(program_of(("give", 0))[1]))])
        before = [sys.getrefcount(thing) for thing in (kinds, functions, program, args, arg, bad)]
        is_kinds(kinds)
        is_tree(kinds, "List", arg)
        is_program(program)
        check(program)
        check(bad)
        checked(program)
        registers(program)
        run(program, "sum", args, 100)
        run(program, "same", args, 100)
        run(program, "sum", args, 3)
        for wanting in (lambda: checked(bad), lambda: run(program, "sum", args, -1), lambda: is_tree(kinds, "Nil", arg)):
            try:
                wanting()
            except CellError:
                pass
        after = [sys.getrefcount(thing) for thing in (kinds, functions, program, args, arg, bad)]
        self.assertEqual(before, after)

    def test_arguments_are_not_changed(self):
        things = ([1, [2, 3]], {"a": [1]}, [LIST_KINDS, LIST_PROGRAM[1]], list(LIST_KINDS), {1, 2})
        copies = ([1, [2, 3]], {"a": [1]}, [LIST_KINDS, LIST_PROGRAM[1]], list(LIST_KINDS), {1, 2})
        for thing in things:
            is_kinds(thing)
            is_program(thing)
            is_tree(LIST_KINDS, "List", thing)
            for call in (lambda: check(thing), lambda: run(LIST_PROGRAM, thing, thing, thing),
                         lambda: run(LIST_PROGRAM, "sum", thing, 5), lambda: is_tree(thing, thing, thing)):
                with self.assertRaises(CellError):
                    call()
        self.assertEqual(things, copies)


if __name__ == "__main__":
    unittest.main()
