"""[4]: trees and their sayings."""

import unittest

from justfreed.programs import is_tree
from tests.samples import LIST_KINDS, MANY_KINDS, ODD, OwnList, cons

MOST = 10 ** 12


def left_tree(deep):
    """A tree of so many nodes, each one the left part of the next."""
    return ("Node",) * deep + ("Leaf",) + (7, "Leaf") * deep


def right_tree(deep):
    return ("Node", "Leaf", 7) * deep + ("Leaf",)


class TreesTest(unittest.TestCase):
    def judge(self, kind, thing, expected, kinds=MANY_KINDS):
        self.assertIs(is_tree(kinds, kind, thing), expected, kind)

    def test_right_sayings(self):
        for kind, thing in (
                ("Tree", ("Leaf",)),
                ("Tree", ("One", 5)),
                ("Tree", ("Node", "Leaf", 1, "Leaf")),
                ("Tree", ("Node", "Node", "Leaf", 1, "One", 2, 3, "Leaf")),
                ("Tree", ("Node", "One", 1, -2, "Node", "Leaf", 3, "Leaf")),
                ("Pair", ("Pair", "Leaf", "Nil")),
                ("Pair", ("Pair", "Node", "Leaf", 1, "One", 2, "Cons", 3, "Cons", 4, "Nil")),
                ("List", ("Nil",)), ("List", cons([1])), ("List", cons([3, 1, 2])),
                ("Wide", ("Wide0",)),
                ("Wide", ("Wide4", "Wide4", "Wide0", 1, "Leaf", 2, 3, "One", 4, 5))):
            self.judge(kind, thing, True)
            for other, _ in MANY_KINDS:
                self.judge(other, thing, other == kind)

    def test_by_names(self):
        self.assertIs(is_tree(kinds=LIST_KINDS, kind="List", thing=("Nil",)), True)
        self.assertIs(is_tree(thing=("Nil", "Nil"), kinds=LIST_KINDS, kind="List"), False)

    def test_a_kind_without_a_tree(self):
        for thing in (("Again",), ("Again", "Again"), ("Again",) * 400, (), ("Again", "Nil")):
            self.judge("Loop", thing, False)

    def test_a_name_of_a_kind_and_of_a_maker(self):
        kinds = (("A", (("B", ("number",)), ("C", ("B",)))), ("B", (("A", ()),)))
        self.judge("A", ("B", 1), True, kinds)
        self.judge("A", ("C", "A"), True, kinds)
        self.judge("B", ("A",), True, kinds)
        self.judge("A", ("A",), False, kinds)
        self.judge("B", ("B", 1), False, kinds)
        self.judge("A", ("C", "B", 1), False, kinds)

    def test_how_many_entries(self):
        for many in range(195, 205):
            self.judge("List", cons(range(many)), 2 * many + 1 <= 400)
        for many in range(128, 138):
            for last in (("Leaf",), ("One", 1)):
                thing = ("Node", "Leaf", 1) * many + last
                self.judge("Tree", thing, len(thing) <= 400)
        self.judge("List", cons(range(100000)), False)

    def test_just_400_and_401_entries(self):
        long = ("Node", "Leaf", 1) * 132
        self.assertEqual(len(long), 396)
        for end, entries in ((("Node", "Leaf", 1, "Leaf"), 400), (("Node", "Leaf", 1, "One", 2), 401)):
            self.assertEqual(len(long + end), entries)
            self.judge("Tree", long + end, entries == 400)

    def test_one_entry_and_none(self):
        self.judge("List", ("Nil",), True)
        self.judge("List", (), False)
        self.judge("List", ("Cons",), False)

    def test_deep_trees(self):
        for deep in (100, 132, 133, 134, 1000):
            self.judge("Tree", left_tree(deep), 3 * deep + 1 <= 400)
            self.judge("Tree", right_tree(deep), 3 * deep + 1 <= 400)
        chain = (("Deep", (("End", ()), ("On", ("Deep",)))),)
        for deep in (398, 399, 400, 5000):
            self.judge("Deep", ("On",) * deep + ("End",), deep <= 399, chain)
        both = (("Deep", (("End", ()), ("Left", ("Deep", "Low")), ("Right", ("Low", "Deep")))), ("Low", (("Bottom", ()),)))
        for deep in (198, 199, 200):
            self.judge("Deep", ("Left",) * deep + ("End",) + ("Bottom",) * deep, 2 * deep + 1 <= 400, both)
            self.judge("Deep", ("Right", "Bottom") * deep + ("End",), 2 * deep + 1 <= 400, both)

    def test_entries_left_out_doubled_and_moved(self):
        thing = ("Node", "Node", "One", 4, 1, "Leaf", 3, "One", 2)
        self.judge("Tree", thing, True)
        for at in range(len(thing)):
            self.judge("Tree", thing[:at] + thing[at + 1:], False)
            self.judge("Tree", thing[:at] + thing[at:at + 1] * 2 + thing[at + 1:], False)
            self.judge("Tree", thing[:at] + ("Leaf",) + thing[at:], False)
            self.judge("Tree", thing[:at] + (0,) + thing[at:], False)
        self.judge("Tree", thing + ("Leaf",), False)
        self.judge("Tree", thing + (1,), False)
        self.judge("Tree", ("Node", "Node", "One", 4, 1, "Leaf", "One", 2, 3), False)
        self.judge("Tree", thing[1:] + thing[:1], False)
        self.judge("Tree", thing[::-1], False)

    def test_fields_stand_in_their_order(self):
        self.judge("Pair", ("Pair", "Nil", "Leaf"), False)
        self.judge("Tree", ("Node", 1, "Leaf", "Leaf"), False)
        self.judge("Tree", ("Node", "Leaf", "Leaf", 1), False)
        self.judge("Wide", ("Wide4", "Wide0", "Leaf", 1, 2), False)

    def test_makers_of_other_kinds(self):
        self.judge("List", ("Cons", 1, "Leaf"), False)
        self.judge("List", ("Leaf",), False)
        self.judge("List", ("Cons", 1, "List"), False)
        self.judge("List", ("List",), False)
        self.judge("List", ("number",), False)
        self.judge("List", ("Cons", "number", "Nil"), False)
        self.judge("List", ("Cons", "Nil", "Nil"), False)
        self.judge("List", (1,), False)
        self.judge("List", ("Cons", 1, 2), False)

    def test_numbers_at_their_bounds(self):
        for number in (0, 1, -1, MOST, -MOST):
            self.judge("List", ("Cons", number, "Nil"), True)
        for number in (MOST + 1, -MOST - 1, 2 * MOST, 10 ** 100, -10 ** 100):
            self.judge("List", ("Cons", number, "Nil"), False)

    def test_odd_objects(self):
        for odd in ODD + (0, 1, "Nil", "List", ["Nil"], {"Nil": 1}, OwnList(["Nil"]), [("Nil",)], (("Nil",),)):
            self.judge("List", odd, False)
        for odd in ODD + ((), ("Nil",), ["Nil"], (1,), "1", "Nil ", b"Nil"):
            self.judge("List", (odd,), False)
            self.judge("List", ("Cons", odd, "Nil"), False)
            self.judge("List", ("Cons", 1, odd), False)
            self.judge("List", ("Cons", 1, "Nil", odd), False)

    def test_nested_sayings_are_none(self):
        self.judge("List", ("Cons", 1, ("Nil",)), False)
        self.judge("List", ("Cons", (1, "Nil")), False)

    def test_lists_are_none(self):
        for numbers in ([], [1], [1, 2]):
            self.judge("List", list(cons(numbers)), False)


if __name__ == "__main__":
    unittest.main()
