"""[4]: kinds."""

import unittest

from justfreed.errors import BadKind, BadKinds, CellError
from justfreed.programs import is_kinds, is_tree
from tests.samples import LIST_KINDS, MANY_KINDS, ODD, OwnList, part_at, paths, replaced


def kinds_of(many):
    return tuple((f"K{at}", ((f"M{at}", ()),)) for at in range(many))


def makers_of(many):
    return (("K", tuple((f"M{at}", ()) for at in range(many))),)


def fields_of(*words):
    return (("K", (("M", words),)), ("L", (("N", ()),)))


class KindsTest(unittest.TestCase):
    def refuse(self, thing, *told):
        self.assertIs(is_kinds(thing), False, told)
        with self.assertRaises(BadKinds, msg=told):
            is_tree(thing, "List", ("Nil",))

    def test_right_kinds(self):
        for kinds in (LIST_KINDS, MANY_KINDS, makers_of(1), kinds_of(1), fields_of()):
            self.assertIs(is_kinds(kinds), True)
            self.assertIs(is_kinds(thing=kinds), True)

    def test_how_many_kinds(self):
        for many in range(9):
            self.assertIs(is_kinds(kinds_of(many)), 1 <= many <= 6, many)

    def test_how_many_makers(self):
        for many in range(9):
            self.assertIs(is_kinds(makers_of(many)), 1 <= many <= 6, many)
        six = tuple((f"K{at}", tuple((f"M{at}{turn}", ("number",) * 4) for turn in range(6))) for at in range(6))
        self.assertIs(is_kinds(six), True)

    def test_how_many_fields(self):
        for many in range(7):
            self.assertIs(is_kinds(fields_of(*["number"] * many)), many <= 4, many)
            self.assertIs(is_kinds(fields_of(*["K"] * many)), many <= 4, many)

    def test_fields_are_names_of_the_kinds_or_number(self):
        for word in ("number", "K", "L"):
            self.assertIs(is_kinds(fields_of(word)), True, word)
            self.assertIs(is_kinds(fields_of("K", word, "L", word)), True, word)
        for word in ("M", "N", "J", "Number", "k", "l", "", "num", "numbers"):
            self.assertIs(is_kinds(fields_of(word)), False, word)
            self.assertIs(is_kinds(fields_of("K", "number", "L", word)), False, word)

    def test_fields_may_name_kinds_further_on(self):
        self.assertIs(is_kinds((("A", (("Ma", ("B",)),)), ("B", (("Mb", ()),)))), True)

    def test_a_kind_may_have_no_tree(self):
        self.assertIs(is_kinds((("Loop", (("Again", ("Loop",)),)),)), True)
        self.assertIs(is_kinds((("A", (("Ma", ("B",)),)), ("B", (("Mb", ("A",)),)))), True)

    def test_names_of_kinds_are_unlike(self):
        self.refuse((("A", (("Ma", ()),)), ("A", (("Mb", ()),))))
        self.refuse((("A", (("Ma", ()),)), ("B", (("Mb", ()),)), ("A", (("Mc", ()),))))
        self.assertIs(is_kinds((("A", (("Ma", ()),)), ("a".upper() + "a", (("Mb", ()),)))), True)

    def test_names_of_makers_are_unlike(self):
        self.refuse((("A", (("Ma", ()), ("Ma", ()))),))
        self.refuse((("A", (("Ma", ()), ("Mb", ()), ("Ma", ("number",)))),))
        self.refuse((("A", (("Ma", ()),)), ("B", (("Ma", ()),))))
        self.refuse((("A", (("Mb", ()), ("Ma", ()))), ("B", (("Mc", ()), ("Ma", ("number",))))))

    def test_a_kind_and_a_maker_may_share_a_name(self):
        self.assertIs(is_kinds((("A", (("A", ()), ("B", ("A", "B")))), ("B", (("C", ()),)))), True)

    def test_odd_objects_in_each_slot(self):
        for odd in ODD + ((),):
            self.refuse(odd)
        for path in paths(MANY_KINDS)[1:]:
            for odd in ODD + (0, 1):
                self.refuse(replaced(MANY_KINDS, path, odd), path)

    def test_lists_for_tuples(self):
        for path in paths(MANY_KINDS):
            part = part_at(MANY_KINDS, path)
            if type(part) is tuple:
                self.refuse(replaced(MANY_KINDS, path, list(part)), path)
                self.refuse(replaced(MANY_KINDS, path, OwnList(part)), path)
                self.refuse(replaced(MANY_KINDS, path, dict.fromkeys(range(len(part)))), path)

    def test_kinds_and_makers_are_pairs(self):
        for path in paths(MANY_KINDS):
            if len(path) in (1, 3):
                part = part_at(MANY_KINDS, path)
                for wrong in (part[:1], part[1:], part + part[1:], part + ((),), part[::-1], part + (None,)):
                    self.refuse(replaced(MANY_KINDS, path, wrong), path)

    def test_an_empty_tuple_stands_for_fields_alone(self):
        for path in paths(MANY_KINDS):
            expected = len(path) == 4 and path[3] == 1
            self.assertIs(is_kinds(replaced(MANY_KINDS, path, ())), expected, path)


class BadKindTest(unittest.TestCase):
    def test_what_is_no_name_of_a_kind(self):
        for kind in ODD + ("number", "Nil", "Cons", "list", "Lis", "List ", "L", (), ("List",), ["List"], 0, 1):
            with self.assertRaises(BadKind):
                is_tree(LIST_KINDS, kind, ("Nil",))

    def test_bad_kinds_is_looked_for_first(self):
        for kind in ("List", "Nil", None):
            for kinds in ODD + (0, (), list(LIST_KINDS)):
                with self.assertRaises(BadKinds):
                    is_tree(kinds, kind, ("Nil",))

    def test_they_are_raised_whatever_is_judged(self):
        for thing in ODD + (("Nil",), 0):
            with self.assertRaises(BadKinds):
                is_tree((), "List", thing)
            with self.assertRaises(BadKind):
                is_tree(LIST_KINDS, "Nil", thing)
            with self.assertRaises(CellError):
                is_tree(LIST_KINDS, True, thing)


if __name__ == "__main__":
    unittest.main()
