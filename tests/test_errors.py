"""[2] and the interface: the errors."""

import copy
import unittest

from justfreed import errors
from tests.samples import ODD

WITHOUT_FIELDS = ("BadKinds", "BadKind", "BadProgram", "BadArgs", "BadName", "BadLimit", "BadPlacing", "BadWay",
                  "BadRow", "BadRegister", "BadLog", "HasTokens", "TooGreat", "Unlike")
FIELDS = {"NotChecked": "what", "NotRight": "way", "NotLet": "index", "BadText": "place"}
VALUES = (None, 0, 17, -1, True, "word", (), ("unset", "f", 3), ("f", (0, 1), ("hold", 2)), "", [1], 10 ** 30) + ODD


class ErrorsTest(unittest.TestCase):
    def test_all_stand_directly_under_cell_error(self):
        self.assertEqual(errors.CellError.__bases__, (ValueError,))
        for name in WITHOUT_FIELDS + tuple(FIELDS):
            self.assertEqual(getattr(errors, name).__bases__, (errors.CellError,), name)

    def test_all_are_defined_in_their_file(self):
        for name in WITHOUT_FIELDS + tuple(FIELDS) + ("CellError",):
            self.assertEqual(getattr(errors, name).__module__, "justfreed.errors", name)
            self.assertEqual(getattr(errors, name).__name__, name)

    def test_no_class_is_above_another_one(self):
        classes = [getattr(errors, name) for name in WITHOUT_FIELDS + tuple(FIELDS)]
        self.assertEqual(len(classes), 18)
        for one in classes:
            for other in classes:
                self.assertEqual(issubclass(one, other), one is other)

    def test_those_without_fields_are_made_with_one_text(self):
        for name in WITHOUT_FIELDS + ("CellError",):
            made = getattr(errors, name)
            for text in ("", "what went wrong", "a\nb"):
                error = made(text)
                self.assertEqual(str(error), text)
                for caught in (made, errors.CellError, ValueError):
                    with self.assertRaises(caught):
                        raise made(text)

    def test_those_with_fields_are_made_by_position_and_by_name(self):
        for name, field in FIELDS.items():
            made = getattr(errors, name)
            for value in VALUES:
                for error in (made(value), made(**{field: value})):
                    self.assertIs(getattr(error, field), value)
                    self.assertEqual(list(vars(error)), [field])
                    self.assertIsInstance(str(error), str)
                    self.assertIsInstance(repr(error), str)

    def test_those_with_fields_are_caught(self):
        for name, field in FIELDS.items():
            made = getattr(errors, name)
            for caught in (made, errors.CellError, ValueError):
                with self.assertRaises(caught) as context:
                    raise made((1, 2))
                self.assertEqual(getattr(context.exception, field), (1, 2))

    def test_those_with_fields_take_these_alone(self):
        for name, field in FIELDS.items():
            made = getattr(errors, name)
            with self.assertRaises(TypeError):
                made()
            with self.assertRaises(TypeError):
                made(1, 2)
            with self.assertRaises(TypeError):
                made(1, **{field: 1})

    def test_each_object_has_its_own_field(self):
        one, other = errors.NotChecked(("a", "f", 0)), errors.NotChecked(("b", "g", 1))
        self.assertEqual((one.what, other.what), (("a", "f", 0), ("b", "g", 1)))
        self.assertEqual(copy.copy(one).what, one.what)


if __name__ == "__main__":
    unittest.main()
