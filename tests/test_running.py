"""[7]: plain runs."""

import unittest

from justfreed.errors import BadArgs, BadLimit, BadName, BadProgram, NotChecked
from justfreed.running import run
from tests.samples import LIST_KINDS, LIST_PROGRAM, MANY_KINDS, ODD, OwnList, Posing, cons, program_of

MOST = 10 ** 12
ALL = 100000


class RunTest(unittest.TestCase):
    def give(self, rows, args, result, rows_done=None, params=(), word="number", kinds=MANY_KINDS, others=()):
        """Expects the result, and that just as many rows are done."""
        program = program_of(*rows, params=params, result=word, kinds=kinds, others=others)
        self.ends(program, "f", args, result, rows_done)

    def ends(self, program, name, args, result, rows_done=None):
        self.assertEqual(run(program, name, args, ALL), ("ended", result))
        if rows_done is not None:
            self.assertEqual(run(program, name, args, rows_done), ("ended", result))
            self.assertEqual(run(program, name, args, rows_done - 1), ("on",))
            self.assertEqual(run(program, name, args, 0), ("on",))


class RowsTest(RunTest):
    def test_number_and_give(self):
        for number in (0, 1, -1, MOST, -MOST):
            self.give((("number", 5, number, 1), ("give", 5)), (), number, 2)
        self.give((("give", 1),), (3, 4), 4, 1, ("number", "number"))
        self.give((("give", 1),), (3, ("One", 4)), ("One", 4), 1, ("number", "Tree"), "Tree")

    def test_by_names(self):
        self.assertEqual(run(program=LIST_PROGRAM, name="sum", args=(cons([1, 2]),), most=50), ("ended", 3))
        self.assertEqual(run(most=5, args=(cons([1, 2]),), name="sum", program=LIST_PROGRAM), ("on",))

    def test_add_and_sub(self):
        for a, b in ((1, 2), (2, 1), (-5, 3), (0, 0), (MOST, 0), (MOST, -MOST), (-MOST, 0)):
            self.give((("add", 2, 0, 1, 1), ("give", 2)), (a, b), a + b, 2, ("number", "number"))
            self.give((("add", 0, 0, 1, 1), ("give", 0)), (a, b), a + b, 2, ("number", "number"))
            self.give((("add", 1, 1, 0, 1), ("give", 1)), (a, b), a + b, 2, ("number", "number"))
        for a, b in ((1, 2), (2, 1), (-5, 3), (0, 0), (MOST, 0), (MOST, MOST), (-MOST, 0), (-MOST, -MOST)):
            self.give((("sub", 2, 0, 1, 1), ("give", 2)), (a, b), a - b, 2, ("number", "number"))
            self.give((("sub", 0, 0, 1, 1), ("give", 0)), (a, b), a - b, 2, ("number", "number"))
            self.give((("sub", 1, 0, 1, 1), ("give", 1)), (a, b), a - b, 2, ("number", "number"))

    def test_sums_beyond_the_bounds(self):
        for a, b, result in ((MOST, 1, -MOST), (MOST, 2, 1 - MOST), (1, MOST, -MOST), (MOST, MOST, -1), (-MOST, -1, MOST),
                             (-MOST, -MOST, 1), (-1, -MOST, MOST), (MOST - 1, 1, MOST), (1 - MOST, -1, -MOST)):
            self.give((("add", 2, 0, 1, 1), ("give", 2)), (a, b), result, 2, ("number", "number"))

    def test_differences_beyond_the_bounds(self):
        for a, b, result in ((MOST, -1, -MOST), (MOST, -2, 1 - MOST), (MOST, -MOST, -1), (-MOST, 1, MOST),
                             (-MOST, MOST, 1), (-2, MOST, MOST - 1), (1, -MOST, -MOST),
                             (MOST - 1, -1, MOST), (1 - MOST, 1, -MOST), (0, MOST, -MOST), (-1, MOST, MOST)):
            self.give((("sub", 2, 0, 1, 1), ("give", 2)), (a, b), result, 2, ("number", "number"))

    def test_less(self):
        for a, b in ((1, 2), (2, 1), (1, 1), (-1, 0), (0, -1), (-MOST, MOST), (MOST, -MOST), (0, 0)):
            rows = (("less", 0, 1, 2, 1), ("give", 0), ("give", 1))
            self.give(rows, (a, b), b if a < b else a, 2, ("number", "number"))
            rows = (("less", 1, 0, 2, 1), ("number", 2, 7, 3), ("number", 2, 8, 3), ("give", 2))
            self.give(rows, (a, b), 8 if b < a else 7, 3, ("number", "number"))
        self.give((("less", 0, 0, 1, 2), ("give", 1), ("give", 2)), (1, 2, 3), 3, 2, ("number",) * 3)

    def test_make(self):
        rows = (("make", 3, "Node", (0, 1, 2), 1), ("give", 3))
        args = (("One", 1), 5, ("Node", "Leaf", 2, "Leaf"))
        self.give(rows, args, ("Node", "One", 1, 5, "Node", "Leaf", 2, "Leaf"), 2, ("Tree", "number", "Tree"), "Tree")
        rows = (("make", 3, "Node", (2, 1, 0), 1), ("give", 3))
        self.give(rows, args, ("Node", "Node", "Leaf", 2, "Leaf", 5, "One", 1), 2, ("Tree", "number", "Tree"), "Tree")
        rows = (("make", 0, "Node", (0, 1, 0), 1), ("give", 0))
        self.give(rows, (("One", 1), 5), ("Node", "One", 1, 5, "One", 1), 2, ("Tree", "number"), "Tree")
        self.give((("make", 0, "Nil", (), 1), ("give", 0)), (), ("Nil",), 2, (), "List")
        rows = (("make", 0, "Wide4", (0, 1, 2, 1), 1), ("give", 0))
        self.give(rows, (("Wide0",), 5, ("Leaf",)), ("Wide4", "Wide0", 5, "Leaf", 5), 2, ("Wide", "number", "Tree"), "Wide")

    def test_match(self):
        rows = (("match", 0, (((), 1), ((2, 3, 4), 2), ((3,), 3))), ("number", 3, -1, 2), ("give", 3), ("add", 3, 3, 3, 2))
        for tree, result, rows_done in ((("Leaf",), -1, 3), (("One", 21), 42, 3), (("Node", "Leaf", 7, "One", 1), 7, 2)):
            self.give(rows, (tree,), result, rows_done, ("Tree",))

    def test_fields_go_to_registers_in_their_order(self):
        tree = ("Node", "One", 1, 5, "One", 2)
        for setting, at, result in (((1, 2, 3), 1, ("One", 1)), ((1, 2, 3), 3, ("One", 2)), ((3, 2, 1), 1, ("One", 2)),
                                    ((3, 1, 2), 3, ("One", 1)), ((3, 1, 2), 2, ("One", 2))):
            rows = (("match", 0, (((), 1), (setting, 2), ((9,), 1))), ("give", 0), ("give", at))
            self.give(rows, (tree,), result, 2, ("Tree",), "Tree")

    def test_the_matched_register_keeps_its_tree(self):
        rows = (("match", 0, (((), 1), ((1, 2, 3), 1), ((4,), 1))), ("give", 0))
        for tree in (("Leaf",), ("One", 4), ("Node", "Leaf", 1, "Leaf")):
            self.give(rows, (tree,), tree, 2, ("Tree",), "Tree")

    def test_call(self):
        others = (("minus", ("number", "number"), "number", (("sub", 0, 0, 1, 1), ("give", 0))),)
        rows = (("call", 2, "minus", (0, 1), 1), ("give", 2))
        self.give(rows, (9, 4), 5, 4, ("number", "number"), others=others)
        rows = (("call", 2, "minus", (1, 0), 1), ("give", 2))
        self.give(rows, (9, 4), -5, 4, ("number", "number"), others=others)
        rows = (("call", 0, "minus", (1, 1), 1), ("give", 1))
        self.give(rows, (9, 4), 4, 4, ("number", "number"), others=others)

    def test_a_called_function_has_its_own_registers(self):
        others = (("g", ("number",), "number", (("number", 1, 50, 1), ("number", 2, 60, 2), ("add", 0, 0, 1, 3), ("give", 0))),)
        rows = (("call", 3, "g", (1,), 1), ("add", 3, 3, 0, 2), ("add", 3, 3, 1, 3), ("add", 3, 3, 2, 4), ("give", 3))
        self.give(rows, (1, 10, 100), 10 + 50 + 111, 9, ("number",) * 3, others=others)

    def test_eight_args(self):
        adding = [("add", 0, 0, 0, 1)]
        for at in range(1, 8):
            adding += [("add", 0, 0, at, len(adding) + 1), ("add", 0, 0, 0, len(adding) + 2)]
        others = (("g", ("number",) * 8, "number", tuple(adding) + (("give", 0),)),)
        rows = (("call", 31, "g", (7, 6, 5, 4, 3, 2, 1, 0), 1), ("give", 31))
        args = (1, 2, 3, 4, 5, 6, 7, 8)
        total = 2 * args[7]
        for arg in args[:7][::-1]:
            total = 2 * (total + arg)
        self.give(rows, args, total, None, ("number",) * 8, others=others)

    def test_functions_of_lists(self):
        self.ends(LIST_PROGRAM, "rev", (cons([1, 2, 3]), cons([9])), cons([3, 2, 1, 9]), 3 * 4 + 2)
        self.ends(LIST_PROGRAM, "rev", (cons([]), cons([9])), cons([9]), 2)
        self.ends(LIST_PROGRAM, "sum", (cons([5, 6, 7]),), 18)
        self.ends(LIST_PROGRAM, "sumloop", (cons([5, 6, 7]),), 18, 1 + 3 * 4 + 1 + 1)
        self.ends(LIST_PROGRAM, "count", (cons([5, 6, 7, 1]), 6), 2)
        self.ends(LIST_PROGRAM, "same", (cons(range(199)),), cons(range(199)), 1)

    def test_functions_that_call_one_another(self):
        functions = (
            ("even", ("number", "number", "number"), "number",
             (("less", 1, 0, 1, 3), ("sub", 0, 0, 2, 2), ("call", 1, "odd", (0, 1, 2), 4), ("number", 1, 1, 4), ("give", 1))),
            ("odd", ("number", "number", "number"), "number",
             (("less", 1, 0, 1, 3), ("sub", 0, 0, 2, 2), ("call", 1, "even", (0, 1, 2), 4), ("number", 1, 0, 4), ("give", 1))))
        for number in range(6):
            self.ends((LIST_KINDS, functions), "even", (number, 0, 1), 1 - number % 2, 4 * number + 3)
            self.ends((LIST_KINDS, functions), "odd", (number, 0, 1), number % 2, 4 * number + 3)


# grows gives a list of so many ones: 2 * number + 1 entries, its rows 3 * number and some.
GROWS = ("grows", ("number",), "List",
         (("number", 1, 0, 1), ("number", 2, 1, 2), ("make", 3, "Nil", (), 3), ("less", 1, 0, 4, 6),
          ("make", 3, "Cons", (2, 3), 5), ("sub", 0, 0, 2, 3), ("give", 3)))
# doubles gives a tree that has its own half twice, so many times over; its least part is a leaf, or a One.
DOUBLES = ("doubles", ("number", "Tree"), "Tree",
           (("number", 2, 0, 1), ("number", 3, 1, 2), ("less", 2, 0, 3, 5),
            ("make", 1, "Node", (1, 0, 1), 4), ("sub", 0, 0, 3, 2), ("give", 1)))
# deep calls itself so many times and gives how often.
DEEP = ("deep", ("number",), "number",
        (("number", 1, 0, 1), ("number", 2, 1, 2), ("less", 1, 0, 3, 6), ("sub", 0, 0, 2, 4), ("call", 1, "deep", (0,), 5),
         ("add", 1, 1, 2, 6), ("give", 1)))


def program(*functions):
    return (MANY_KINDS, functions)


class ResultsTest(RunTest):
    def test_how_many_entries(self):
        for many in (0, 1, 1000, 1998, 1999):
            self.ends(program(GROWS), "grows", (many,), ("Cons", 1) * many + ("Nil",), 5 + 3 * many)
        for many in (2000, 2001, 5000, 30000):
            self.ends(program(GROWS), "grows", (many,), None, 5 + 3 * many)

    def test_just_4000_and_4001_entries(self):
        # A Wide chain of so many makers and one more, a leaf in each of them but the outermost, that has the tree.
        wide = ("wide", ("number", "Tree"), "Wide",
                (("number", 2, 0, 1), ("number", 3, 1, 2), ("make", 4, "Wide0", (), 3), ("make", 5, "Leaf", (), 4),
                 ("less", 2, 0, 5, 7), ("make", 4, "Wide4", (4, 2, 5, 3), 6), ("sub", 0, 0, 3, 4),
                 ("make", 4, "Wide4", (4, 2, 1, 3), 8), ("give", 4)))
        for tree, entries in ((("Leaf",), 3997), (("One", 5), 3998), (("Node", "Leaf", 1, "Leaf"), 4000),
                              (("Node", "Leaf", 1, "One", 2), 4001), (("Node", "One", 1, 1, "One", 2), 4002)):
            result = ("Wide4",) * 999 + ("Wide0",) + (0, "Leaf", 1) * 998 + (0,) + tree + (1,)
            self.assertEqual(len(result), entries)
            self.ends(program(wide), "wide", (998, tree), result if entries <= 4000 else None)

    def test_trees_that_share_their_parts(self):
        tree = ("One", 7)
        for times in range(0, 14):
            expected = tree
            for number in range(times, 0, -1):
                expected = ("Node",) + expected + (number,) + expected
                if len(expected) > 4000:
                    expected = None
                    break
            self.ends(program(DOUBLES), "doubles", (times, tree), expected, 4 + 3 * times)
        for times in (100, 1000, 30000):
            self.ends(program(DOUBLES), "doubles", (times, tree), None, 4 + 3 * times)

    def test_deep_results(self):
        left = ("left", ("number",), "Tree",
                (("number", 1, 0, 1), ("number", 2, 1, 2), ("make", 3, "Leaf", (), 3), ("make", 4, "Leaf", (), 4),
                 ("less", 1, 0, 5, 7), ("make", 3, "Node", (3, 0, 4), 6), ("sub", 0, 0, 2, 4), ("give", 3)))
        for many in (1, 5, 1333):
            result = ("Node",) * many + ("Leaf",) + tuple(part for at in range(many) for part in (many - at, "Leaf"))
            self.ends(program(left), "left", (many,), result, 6 + 3 * many)
        for many in (1334, 30000):
            self.ends(program(left), "left", (many,), None, 6 + 3 * many)

    def test_results_are_plain(self):
        for name, args in (("rev", (cons([1]), cons([2]))), ("sum", (cons([1, 2]),))):
            outcome = run(LIST_PROGRAM, name, args, 100)
            self.assertIs(type(outcome), tuple)
            self.assertIn(type(outcome[1]), (tuple, int))
        self.assertIs(type(run(LIST_PROGRAM, "sum", (cons([]),), 0)), tuple)


class LimitsTest(RunTest):
    LOOP = program_of(("number", 0, 0, 1), ("less", 0, 0, 2, 1), ("give", 0))
    CALLS = program_of(("call", 0, "f", (), 1), ("give", 0))

    def test_loops_that_never_end(self):
        for most in (0, 1, 2, 1000, ALL):
            self.assertEqual(run(self.LOOP, "f", (), most), ("on",))

    def test_calls_that_never_end(self):
        for most in (0, 1, 2, 1000, ALL):
            self.assertEqual(run(self.CALLS, "f", (), most), ("on",))

    def test_calls_thousands_deep(self):
        for deep in (0, 1, 2, 1500, 14000):
            self.ends(program(DEEP), "deep", (deep,), deep, 4 + 7 * deep)
        self.assertEqual(run(program(DEEP), "deep", (20000,), ALL), ("on",))

    def test_just_100000_rows(self):
        # Five rows, and three for each one: 3 * 33331 + 5 is 99998, so two more are put ahead.
        name, params, result, rows = GROWS
        ahead = (("number", 9, 0, 1), ("number", 9, 0, 2))
        shifted = tuple(row if row[0] == "give" else row[:-1] + (row[-1] + 2,) if row[0] != "less"
                        else row[:3] + (row[3] + 2, row[4] + 2) for row in rows)
        exact = program((name, params, result, ahead + shifted))
        self.assertEqual(run(exact, "grows", (33331,), ALL), ("ended", None))
        self.assertEqual(run(exact, "grows", (33331,), ALL - 1), ("on",))
        self.assertEqual(run(program(GROWS), "grows", (33332,), ALL), ("on",))

    def test_limits_at_their_bounds(self):
        one = program_of(("give", 0), params=("number",))
        self.assertEqual(run(one, "f", (5,), 0), ("on",))
        self.assertEqual(run(one, "f", (5,), 1), ("ended", 5))
        self.assertEqual(run(one, "f", (5,), ALL), ("ended", 5))

    def test_bad_limits(self):
        for most in ODD + (-1, ALL + 1, 10 ** 9, "5", (5,), [5], ()):
            with self.assertRaises(BadLimit):
                run(LIST_PROGRAM, "sum", (cons([1]),), most)


class ArgsTest(RunTest):
    def refuse(self, name, args, program=LIST_PROGRAM):
        for most in (0, 100, ALL, -1, None, True):
            with self.assertRaises(BadArgs):
                run(program, name, args, most)

    def test_how_many(self):
        one = cons([1])
        self.refuse("sum", ())
        self.refuse("sum", (one, one))
        self.refuse("rev", (one,))
        self.refuse("rev", (one, one, one))
        self.refuse("f", (1,), program_of(("number", 0, 0, 1), ("give", 0)))

    def test_lists(self):
        self.refuse("sum", [cons([1])])
        self.refuse("sum", OwnList([cons([1])]))
        self.refuse("sum", (list(cons([1])),))
        self.refuse("sum", cons([1]))
        self.refuse("sum", {cons([1]): 1})
        self.refuse("f", [], program_of(("number", 0, 0, 1), ("give", 0)))

    def test_trees_by_is_tree(self):
        for arg in ((), ("Cons",), ("Cons", 1), ("Cons", 1, "Nil", "Nil"), ("Cons", True, "Nil"), ("Leaf",), (1,), 1, "Nil",
                    None, ("Cons", MOST + 1, "Nil"), ("Cons", 1, ("Nil",))) + ODD:
            self.refuse("sum", (arg,))
            self.refuse("rev", (cons([1]), arg))
            self.refuse("rev", (arg, cons([1])))

    def test_how_great(self):
        self.ends(LIST_PROGRAM, "same", (cons(range(199)),), cons(range(199)))
        self.refuse("same", (cons(range(200)),))
        self.refuse("same", (cons(range(1000)),))
        most = ("Cons", 1) * 199 + ("Nil",)
        self.ends(LIST_PROGRAM, "rev", (most, most), ("Cons", 1) * 398 + ("Nil",))
        deep = program_of(("give", 0), params=("Tree",), result="Tree", kinds=MANY_KINDS)
        tree = ("Node",) * 133 + ("Leaf",) + (7, "Leaf") * 133
        self.ends(deep, "f", (tree,), tree, 1)
        tree = ("Node",) * 133 + ("One", 1) + (7, "Leaf") * 133
        self.refuse("f", (tree,), deep)

    def test_numbers(self):
        one = program_of(("give", 0), params=("number",))
        for number in (0, 1, -1, MOST, -MOST):
            self.ends(one, "f", (number,), number, 1)
        for number in (MOST + 1, -MOST - 1, ("Nil",), (1,), (), "1", [1]) + ODD:
            self.refuse("f", (number,), one)

    def test_of_each_params_kind(self):
        two = program_of(("give", 1), params=("Tree", "number", "List"), kinds=MANY_KINDS)
        self.ends(two, "f", (("Leaf",), 1, ("Nil",)), 1, 1)
        for args in ((("Nil",), 1, ("Leaf",)), (1, ("Leaf",), ("Nil",)), (("Leaf",), ("Leaf",), ("Nil",)),
                     (("Leaf",), 1, 1), (("Leaf",), 1, ("Leaf",)), (("Nil",), 1, ("Nil",))):
            self.refuse("f", args, two)

    def test_a_param_without_a_tree(self):
        loop = program_of(("give", 0), params=("Loop",), result="Loop", kinds=MANY_KINDS)
        for arg in (("Again",), ("Again", "Again"), ("Again",) * 400, ()):
            self.refuse("f", (arg,), loop)

    def test_odd_objects(self):
        for odd in ODD + (0, 1, (None,), ((),)):
            self.refuse("sum", odd)
            self.refuse("rev", odd)


class ErrorsTest(unittest.TestCase):
    WRONG = program_of(("give", 0))

    def test_names(self):
        for name in ODD + ("rex", "Rev", "List", "number", "re", "rev ", ("rev",), ["rev"], 0, 1, (), b"rev", Posing(str, "rev")):
            with self.assertRaises(BadName):
                run(LIST_PROGRAM, name, (cons([]), cons([])), 10)

    def test_in_the_order_of_the_parameters(self):
        arg = (cons([1]),)
        for name in ("sum", "nofun", 0):
            for args in (arg, (), 0):
                for most in (10, -1, None):
                    for bad in (None, (), [LIST_KINDS, LIST_PROGRAM[1]], (LIST_KINDS, ())):
                        with self.assertRaises(BadProgram):
                            run(bad, name, args, most)
                    with self.assertRaises(NotChecked) as context:
                        run(self.WRONG, name, args, most)
                    self.assertEqual(context.exception.what, ("unset", "f", 0))
                    wanted = BadName if name != "sum" else BadArgs if args != arg else BadLimit if most != 10 else None
                    if wanted is None:
                        self.assertEqual(run(LIST_PROGRAM, name, args, most), ("ended", 1))
                        continue
                    with self.assertRaises(wanted):
                        run(LIST_PROGRAM, name, args, most)


if __name__ == "__main__":
    unittest.main()
